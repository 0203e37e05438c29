/-
  The walk of the law RsSums.
-/
import Derived.Test.YtnhledngeicekaaSums
namespace Go.Proofs.Ytnhledngeicekaa
open Go.RowKit Go.BigFrame

/-- When the law goes on. -/
def Pair (s t : List (List Nat)) : Prop := s.length = t.length ∧ 1 ≤ s.length ∧ Ev s ∧ Ev t ∧ (s.getD 0 []).length = (t.getD 0 []).length


set_option maxRecDepth 100000 in
set_option maxHeartbeats 16000000 in
theorem rsSums_walk (a0 : Option Addr) (len0 cap0 : Nat) (m0 : List (List Nat)) (a1 : Option Addr) (len1 cap1 : Nat) (m1 : List (List Nat)) (a2 a3 : Int) (w : World) (w0 : m0.length = len0 ∧ GridAt w a0 cap0 m0) (w1 : m1.length = len1 ∧ GridAt w a1 cap1 m1) (w2 : (Lit.int .u8 a2).wf = true) (w3 : (Lit.int .u8 a3).wf = true) :
    Calls Try.prog 7 #[.slice a0 len0 cap0, .slice a1 len1 cap1, .int .u8 a2, .int .u8 a3] w fun e w' => e = .returned (.bool true) ∧ Below w.heap.size w w' := by
  obtain ⟨mm, hmm, rfl⟩ := byte_of w2
  obtain ⟨x, hx, rfl⟩ := byte_of w3
  have HCT := Lib.hid (fun w => fun h => cut3_any a0 cap0 len0 5 m0 w h w0.1 (by omega))
  have HCU := Lib.hid (fun w => fun h => cut3_any a1 cap1 len1 5 m1 w h w1.1 (by omega))
  have HG0 := Lib.hid w0.2
  have HG1 := Lib.hid w1.2
  have hsl := cutM_le m0 5
  have htl := cutM_le m1 5
  have HWD := Lib.hid (cutM_row m0 5 0)
  have HWE := Lib.hid (cutM_row m1 5 0)
  clear w0 w1 w2 w3
  generalize cutM m0 5 = s at *
  generalize cutM m1 5 = t at *
  obtain ⟨l, hl⟩ : ∃ l, s.length = l := ⟨_, rfl⟩
  obtain ⟨l', hl'⟩ : ∃ l', t.length = l' := ⟨_, rfl⟩
  rw [hl] at HCT hsl
  rw [hl'] at HCU htl
  have HL := Lib.hid hl
  have HL' := Lib.hid hl'
  clear hl hl'
  have HNZ : Hid ((mm : Int) % 6 = ((mm % 6 : Nat) : Int)) := by show _ = _; omega
  have hm9 : mm % 6 ≤ 5 := by omega
  go_enter Try.func7, Try.ntmps7
  go_wp2_with fail
  refine (HCT.out _ HG0.out).mono ?_
  rintro e w1 ⟨_, a, cap, rfl, hS, hb1⟩
  have HS1 := Lib.hid hS
  have HB1 := Lib.hid hb1
  clear hS
  go_wp2_with fail
  refine (HCU.out _ (HG1.out.below hb1)).mono ?_
  rintro e w2 ⟨_, b, cbp, rfl, hT, hb2⟩
  have HS2 := Lib.hid (HS1.out.below hb2)
  have HT2 := Lib.hid hT
  have HB2 := Lib.hid (HB1.out.trans (hb2.mono HB1.out.size))
  clear hb1 hT hb2 HS1 HB1
  go_upto_region 2 with fail
  go_cut [60] (fun sl wx => (∃ bb, sl = .bool bb ∧ (bb = false → Pair s t)) ∧ ∃ q, wx = w2.drewN q)
  case first =>
    by_cases h1 : l = l'
    · subst h1
      have t1 : ((l : Int) != (l : Int)) = false := by simp
      by_cases h2 : l = 0
      · have t2 : ((l : Int) == 0) = true := by simp; omega
        clear h2
        go_quiet (fail)
        go_wp2_with fail
        go_meet
        exact ⟨⟨_, rfl, fun e => by simp at e⟩, _, rfl⟩
      · have t2 : ((l : Int) == 0) = false := by simp; omega
        have l0 : (0 : Int) < (l : Int) := by omega
        obtain ⟨bS, offS, rs0, rsc0, e, hs0, hss0⟩ := HS2.out.at 0 (by rw [HL.out]; omega)
        subst e
        obtain ⟨bT, offT, rt0, rtc0, e, ht0, htt0⟩ := HT2.out.at 0 (by rw [HL'.out]; omega)
        subst e
        rw [Nat.add_zero] at hs0 ht0
        have m1 := Nat.le_trans hss0.le hss0.max
        have m2 := Nat.le_trans htt0.le htt0.max
        unfold maxLen at m1 m2
        clear hss0 htt0
        by_cases h3 : Ev s
        · have HEA := Lib.hid (fun d => quiet_more (even_loop true (some ⟨bS, offS, none⟩) cap l s (w2.drewN d) (HS2.out.below (below_drewN _ _)) HL.out (by omega) ⟨fun _ => h3, fun _ => rfl⟩))
          by_cases h4 : Ev t
          · have HEB := Lib.hid (fun d => quiet_more (even_loop true (some ⟨bT, offT, none⟩) cbp l t (w2.drewN d) (HT2.out.below (below_drewN _ _)) HL'.out (by omega) ⟨fun _ => h4, fun _ => rfl⟩))
            by_cases h5 : (s.getD 0 []).length = (t.getD 0 []).length
            · have HP : Hid (Pair s t) := ⟨by rw [HL.out, HL'.out], by rw [HL.out]; omega, h3, h4, h5⟩
              rw [h5] at hs0 m1
              clear h3 h4 h5
              generalize (t.getD 0 []).length = q at *
              have t5 : ((q : Int) != (q : Int)) = false := by simp
              go_quiet (first | (go_at_call 16; with_reducible exact HEA.out _) | (go_at_call 16; with_reducible exact HEB.out _))
              go_wp2_with fail
              go_meet
              exact ⟨⟨_, rfl, fun _ => HP.out⟩, _, rfl⟩
            · have t5 := ibne h5
              clear h3 h4 h5
              generalize (t.getD 0 []).length = q at *
              generalize (s.getD 0 []).length = q' at *
              go_quiet (first | (go_at_call 16; with_reducible exact HEA.out _) | (go_at_call 16; with_reducible exact HEB.out _))
              go_wp2_with fail
              go_meet
              exact ⟨⟨_, rfl, fun e => by simp at e⟩, _, rfl⟩
          · have HEB := Lib.hid (fun d => quiet_more (even_loop false (some ⟨bT, offT, none⟩) cbp l t (w2.drewN d) (HT2.out.below (below_drewN _ _)) HL'.out (by omega) ⟨fun e => by simp at e, fun e => absurd e h4⟩))
            clear h3 h4 hs0 ht0
            go_quiet (first | (go_at_call 16; with_reducible exact HEA.out _) | (go_at_call 16; with_reducible exact HEB.out _))
            go_wp2_with fail
            go_meet
            exact ⟨⟨_, rfl, fun e => by simp at e⟩, _, rfl⟩
        · have HEA := Lib.hid (fun d => quiet_more (even_loop false (some ⟨bS, offS, none⟩) cap l s (w2.drewN d) (HS2.out.below (below_drewN _ _)) HL.out (by omega) ⟨fun e => by simp at e, fun e => absurd e h3⟩))
          have HEB := HEA
          clear h3 hs0 ht0
          go_quiet (first | (go_at_call 16; with_reducible exact HEA.out _) | (go_at_call 16; with_reducible exact HEB.out _))
          go_wp2_with fail
          go_meet
          exact ⟨⟨_, rfl, fun e => by simp at e⟩, _, rfl⟩
    · have t1 := ibne h1
      clear h1
      go_quiet (fail)
      go_wp2_with fail
      go_meet
      exact ⟨⟨_, rfl, fun e => by simp at e⟩, _, rfl⟩
  case rest =>
  obtain ⟨⟨bb, rfl, hpair⟩, dq, rfl⟩ := hcut
  have HS3 := Lib.hid (HS2.out.below (below_drewN w2 dq))
  have HT3 := Lib.hid (HT2.out.below (below_drewN w2 dq))
  have HB3 := Lib.hid (HB2.out.trans ((below_drewN w2 dq).mono HB2.out.size))
  generalize w2.drewN dq = w3 at *
  clear HS2 HT2 HB2
  cases bb with
  | true =>
    clear hpair
    go_wp2_with fail
    refine (awake3 _).mono ?_
    rintro e w4 ⟨rfl, hb4⟩
    have HB4 := Lib.hid (HB3.out.trans (hb4.mono HB3.out.size))
    go_wp2
    go_ret
    exact ⟨rfl, HB4.out⟩
  | false =>
    obtain ⟨q1, q2, q3, q4, q5⟩ := hpair rfl
    clear hpair
    obtain rfl : l' = l := by rw [← HL'.out, ← q1, HL.out]
    have hl1 : 1 ≤ l' := by rw [← HL.out]; exact q2
    have HEs := Lib.hid q3
    have HEt := Lib.hid q4
    obtain ⟨k, hk⟩ : ∃ k, (s.getD 0 []).length = k := ⟨_, rfl⟩
    have HK := Lib.hid hk
    have HK' : Hid ((t.getD 0 []).length = k) := by show _ = _; rw [← q5]; exact hk
    have hk20 : k ≤ 20 := by have := HWD.out; omega
    have HBS := Lib.hid HS3.out.by
    have HBT := Lib.hid HT3.out.by
    clear q1 q2 q3 q4 q5 hk HWD HWE HCT HCU HG0 HG1
    have HRS : Hid (∀ i, i < l' → (s.getD i []).length = k) := fun i hi => by rw [HEs.out i (by rw [HL.out]; exact hi)]; exact HK.out
    have HRT : Hid (∀ i, i < l' → (t.getD i []).length = k) := fun i hi => by rw [HEt.out i (by rw [HL'.out]; exact hi)]; exact HK'.out
    obtain ⟨bS, offS, _, _, e, _, _⟩ := HS3.out.at 0 (by rw [HL.out]; omega)
    subst e
    obtain ⟨bT, offT, _, _, e, _, _⟩ := HT3.out.at 0 (by rw [HL'.out]; omega)
    subst e
    go_upto_region 5 with fail
    rw [HNZ.out]
    clear HNZ
    generalize mm % 6 = m' at *
    have HTW : Hid (Two ((w3.alloc (.cells #[] 28)).alloc (.cells #[] 28)) w3.heap.size w3.heap.size 0 (fun _ => 0) (fun _ => 0) (w3.heap.size + 1) 0 (fun _ => 0) (fun _ => 0) (msum s t k 0) (mtim s x k 0)) := by
      have h1 := (ownM_none w3 w3.heap.size (Nat.le_refl _)).below (below_one _ (.cells #[] 28))
      have h2 := ownM_none (w3.alloc (.cells #[] 28)) w3.heap.size (by simp)
      refine ⟨h1, ?_, by omega⟩
      show OwnM _ _ _ _ _ _ []
      simpa using h2
    have HBB : Hid (Below w3.heap.size w3 ((w3.alloc (.cells #[] 28)).alloc (.cells #[] 28))) := (below_one w3 _).alloc (by simp) _
    go_wp2
    go_loopw [10, 11, 12, 13, 14, 15] (fun s10 s11 i _ _ _ ws => ∃ (j G1 C1 G2 C2 : Nat) (g1 c1 g2 c2 : Nat → Nat), j ≤ l' ∧ i = .int .i64 j ∧ s10 = .slice (some ⟨G1, 0, none⟩) j C1 ∧ s11 = .slice (some ⟨G2, 0, none⟩) j C2 ∧ Hid (Two ws w3.heap.size G1 C1 g1 c1 G2 C2 g2 c2 (msum s t k j) (mtim s x k j)) ∧ Hid (Below w3.heap.size w3 ws)) (fun _ _ i _ _ _ _ => l' - (intOf i).toNat)
    case atStart => exact ⟨0, _, _, _, _, _, _, _, _, Nat.zero_le _, rfl, rfl, rfl, HTW, HBB⟩
    case round =>
      obtain ⟨j, G1, C1, G2, C2, g1, c1, g2, c2, hj, rfl, rfl, rfl, hW, hb⟩ := hrel
      have hbz := hb.out.size
      by_cases hlt : j < l'
      · generalize wr = wo at *
        obtain ⟨b', off', ra, rc, e, hca0, hSa0⟩ := HS3.out.at j (by rw [HL.out]; exact hlt)
        cases e
        rw [HRS.out j hlt] at hca0
        obtain ⟨b', off', rb, rcb, e, hcb0, hSb0⟩ := HT3.out.at j (by rw [HL'.out]; exact hlt)
        cases e
        rw [HRT.out j hlt] at hcb0
        have HCA := Lib.hid (cell_later hb.out hca0)
        have HCB := Lib.hid (cell_later hb.out hcb0)
        have HSA := Lib.hid (hSa0.below hb.out)
        have HSB := Lib.hid (hSb0.below hb.out)
        have HLA := Lib.hid (HRS.out j hlt)
        have HLB := Lib.hid (HRT.out j hlt)
        have HN1 := Lib.hid ((ownB_lit wo w3.heap.size [] #[] rfl bytes_nil hbz (by unfold maxLen; simp)).chg (gs := []) ((Chg.refl _ _).alloc (.cells #[] 5)) (by simp))
        have HN2 : Hid (OwnB ((wo.alloc (.cells #[] 5)).alloc (.cells #[] 5)) w3.heap.size (wo.heap.size + 1) 0 []) := by
          have := ownB_lit (wo.alloc (.cells #[] 5)) w3.heap.size [] #[] rfl bytes_nil (by simp; omega) (by unfold maxLen; simp)
          show OwnB _ _ _ _ _
          simpa using this
        have HB2' : Hid (Below wo.heap.size wo ((wo.alloc (.cells #[] 5)).alloc (.cells #[] 5))) := (below_one wo _).alloc (by simp) _
        have j0 : (0 : Int) ≤ (j : Int) := by omega
        have j1 : (j : Int) < (l' : Int) := by omega
        clear hca0 hcb0 hSa0 hSb0
        go_wp2
        go_loopw [13, 14, 15] (fun s13 s14 i ws => ∃ (c b1 y1 b2 y2 : Nat), c ≤ k ∧ i = .int .i64 c ∧ s13 = .slice (some ⟨b1, 0, none⟩) c y1 ∧ s14 = .slice (some ⟨b2, 0, none⟩) c y2 ∧ b1 ≠ b2 ∧ wo.heap.size ≤ b1 ∧ wo.heap.size ≤ b2 ∧ Hid (OwnB ws w3.heap.size b1 y1 (rsum s t j c)) ∧ Hid (OwnB ws w3.heap.size b2 y2 (rtim s x j c)) ∧ Hid (Below wo.heap.size wo ws)) (fun _ _ i _ => k - (intOf i).toNat)
        case atStart => exact ⟨0, wo.heap.size, 0, wo.heap.size + 1, 0, Nat.zero_le _, rfl, rfl, rfl, by omega, by omega, by omega, HN1, HN2, HB2'⟩
        case round =>
          obtain ⟨c, b1, y1, b2, y2, hc, rfl, rfl, rfl, hne, hb1, hb2, hR1, hR2, hbl⟩ := hrel
          have hbq := hbl.out.size
          have hca := cell_later hbl.out HCA.out
          by_cases hlc : c < k
          · obtain ⟨xb, xoff, e, hx0⟩ := HSA.out.cell c (by rw [HLA.out]; exact hlc)
            subst e
            obtain ⟨zb, zoff, e, hz0⟩ := HSB.out.cell c (by rw [HLB.out]; exact hlc)
            subst e
            have hub : Mt.en s j c < 256 := HBS.out.lt j c
            have hvb : Mt.en t j c < 256 := HBT.out.lt j c
            have hx0' : wo.cell? ⟨xb, xoff + c, none⟩ = some (.int .u8 ((Mt.en s j c : Nat) : Int)) := hx0
            have hz0' : wo.cell? ⟨zb, zoff + c, none⟩ = some (.int .u8 ((Mt.en t j c : Nat) : Int)) := hz0
            have HXS := Lib.hid hx0'
            have hcb := cell_later hbl.out HCB.out
            have hxs := cell_later hbl.out hx0'
            have hzs := cell_later hbl.out hz0'
            have HS1 := Lib.hid (rsum_succ s t j c)
            have HS2 := Lib.hid (rtim_succ s x j c)
            have HR1L := Lib.hid (rsum_len s t j c)
            have HR2L := Lib.hid (rtim_len s x j c)
            have hxx := u8_xor_nat (Mt.en s j c) (Mt.en t j c) hub hvb
            have huv := Gf.x_lt (Mt.en s j c) (Mt.en t j c) hub hvb
            have hgx := Gf.gm_lt (Mt.en s j c) x hub
            have hlt2 := hR2.out.lt.2
            have c0 : (0 : Int) ≤ (c : Int) := by omega
            have c1' : (c : Int) < (k : Int) := by omega
            clear hx0 hz0 hx0' hz0'
            generalize Mt.en s j c = u at *
            generalize Mt.en t j c = v at *
            have HOB : Hid (OwnB (wr.drew.alloc (.cells #[.int .u8 ((u ^^^ v : Nat) : Int)] 5)) w3.heap.size b1 y1 (rsum s t j c)) := (hR1.out.drew).chg (gs := []) ((Chg.refl _ _).alloc _) (by simp)
            obtain ⟨b1', y1', w4, hrun, hB4, hC4, hat4⟩ := run_appOne (wr.drew.alloc (.cells #[.int .u8 ((u ^^^ v : Nat) : Int)] 5)) 28 w3.heap.size b1 y1 c wr.heap.size (u ^^^ v) (rsum s t j c) HR1L.out HOB.out huv (cell_new' _ _ _ _ rfl) (by omega) (by simp; show _ ≤ wr.heap.size + 1; omega)
            have HB4 := Lib.hid hB4
            have HBL4 := Lib.hid (hC4.below (Below.alloc (below_same hbl.out (b := wr.drew) rfl rfl rfl rfl) (by show _ ≤ wr.heap.size; omega) _) (by simp; show _ ≤ wr.heap.size + 1; omega) (by simp; omega))
            have HM4 := Lib.hid ((hR2.out.drew.chg (gs := []) ((Chg.refl _ _).alloc _) (by simp)).chg hC4 (by simp; exact fun e => hne e.symm))
            have hb14 : wo.heap.size ≤ b1' := by
              rcases hat4 with h | h
              · omega
              · have h' : wr.heap.size + 1 ≤ b1' := by simpa using h
                omega
            have hne4 : b1' ≠ b2 := by
              rcases hat4 with h | h
              · omega
              · have h' : wr.heap.size + 1 ≤ b1' := by simpa using h
                omega
            have hcad : wr.drew.cell? ⟨bS, offS + j, none⟩ = some (.slice (some ⟨xb, xoff, none⟩) k rc) := hca
            have hcbd : wr.drew.cell? ⟨bT, offT + j, none⟩ = some (.slice (some ⟨zb, zoff, none⟩) k rcb) := hcb
            have hxsd : wr.drew.cell? ⟨xb, xoff + c, none⟩ = some (.int .u8 (u : Int)) := hxs
            have hzsd : wr.drew.cell? ⟨zb, zoff + c, none⟩ = some (.int .u8 (v : Int)) := hzs
            have hzd : wr.drew.heap.size = wr.heap.size := rfl
            clear hB4 hC4 hat4 HOB
            go_upto_region 13 with fail
            go_cut [13] (fun sl wx => sl = .slice (some ⟨b1', 0, none⟩) (c + 1) y1' ∧ wx = w4)
            case first =>
              go_region_law (refine step_run_append rfl (.tmp 84) (.tmp 100) 28 rfl _ _ _ _ rfl rfl hrun ?_)
              all_goals (go_wp2_with fail; go_meet)
              all_goals exact ⟨rfl, rfl⟩
            case rest =>
            obtain ⟨rfl, rfl⟩ := hcut
            have hc4 := cell_later HBL4.out HCA.out
            have hx4 := cell_later HBL4.out HXS.out
            clear hrun hcad hcbd hxsd hzsd hzd hca hcb hxs hzs hxx
            go_wp2_with (first | (go_at_call 23; refine (ref_gm _ _ _ (by omega) (by omega)).mono ?_; rintro e w' ⟨rfl, rfl⟩) | (at_builtin; refine wpList_appN rfl (.tmp 102) (.tmp 112) rfl w3.heap.size b2 y2 (rtim s x j c) [Gf.gm u x] c 1 HR2L.out rfl rfl (HM4.out.chg (gs := []) ((Chg.refl _ _).alloc _) (by simp)) _ _ rfl (seen_one _ _ _ hgx rfl) (by omega) (by have := HBL4.out.size; simp; omega) ?_; intro b2' y2' w5 hB5 hC5 hat5))
            have hlt4 := HB4.out.lt.2
            have hz4 := HBL4.out.size
            go_round
            case rel =>
              refine ⟨c + 1, b1', y1', b2', y2', by omega, by go_num, rfl, rfl, ?_, hb14, ?_, ?_, by rw [HS2.out]; exact hB5, hC5.below (HBL4.out.alloc hz4 _) (by simp; omega) (by simp; omega)⟩
              · rcases hat5 with h | h
                · omega
                · simp at h; omega
              · rcases hat5 with h | h
                · omega
                · simp at h; omega
              · rw [HS1.out]
                exact (HB4.out.chg (gs := []) ((Chg.refl _ _).alloc _) (by simp)).chg hC5 (by simpa using hne4)
            case measure => simp [intOf]; omega
          · obtain rfl : c = k := by omega
            have HR1L := Lib.hid (rsum_len s t j c)
            have HR2L := Lib.hid (rtim_len s x j c)
            have HML := Lib.hid (msum_len s t c j)
            have HTL := Lib.hid (mtim_len s x c j)
            have HO1 := Lib.hid ((Chg.of_below (gs := []) hbl.out).owns hW.out.fst.outer (by simp))
            have HO2 := Lib.hid ((Chg.of_below (gs := []) hbl.out).owns hW.out.snd.outer (by simp))
            rw [HML.out] at HO1
            rw [HTL.out] at HO2
            have HNEG := Lib.hid hW.out.ne
            go_wp2_with (first | (at_builtin; refine wpList_appV rfl (.tmp 114) (.tmp 116) rfl w3.heap.size G1 C1 j _ rfl (World.ownsRow.alloc HO1.out _) _ _ _ rfl (cell_new' _ _ _ _ (by simp)) rfl (by omega) (by simp; omega) ?_; intro G1' C1' w5 hown5 hC5 hat5; have HOW5 := Lib.hid hown5; have HC5 := Lib.hid hC5; have HAT5 := Lib.hid hat5; have HO25 := Lib.hid (hC5.owns (World.ownsRow.alloc HO2.out _) (by intro g hg; cases hg; simp; exact fun e => HNEG.out e.symm)); have hz5 := hC5.size; clear hown5 hC5 hat5) | (at_builtin; refine wpList_appV rfl (.tmp 118) (.tmp 120) rfl w3.heap.size G2 C2 j _ rfl (World.ownsRow.alloc HO25.out _) _ _ _ rfl (cell_new' _ _ _ _ (by simp)) rfl (by omega) (by simp at hz5; simp; omega) ?_; intro G2' C2' w6 hown6 hC6 hat6))
            have HP : Hid (Two w6 w3.heap.size G1' C1' (snoc j b1 g1) (snoc j y1 c1) G2' C2' (snoc j b2 g2) (snoc j y2 c2) (msum s t c (j + 1)) (mtim s x c (j + 1)) ∧ Chg [G1, G2] wo w6) := by
              have := hW.out.push hbl.out hR1.out hR2.out hb1 hb2 _ _ (by simpa using HC5.out) (by simpa using HAT5.out) (by rw [HML.out, HR1L.out]; simpa using HOW5.out) (by simpa using hC6) (by simpa using hat6) (by rw [HTL.out, HR2L.out]; simpa using hown6)
              rw [HML.out, HTL.out] at this
              show Two _ _ _ _ _ _ _ _ _ _ _ _ ∧ _
              rw [msum_succ, mtim_succ]
              exact this
            have hg1 := hW.out.fst.lt.1
            have hg2 := hW.out.snd.lt.1
            go_round
            case rel => exact ⟨j + 1, G1', C1', G2', C2', _, _, _, _, by omega, by go_num, rfl, rfl, HP.out.1, HP.out.2.below hb.out hbz (by simp; omega)⟩
            case measure => simp [intOf]; omega
      · obtain rfl : j = l' := by omega
        obtain ⟨n, hn⟩ : ∃ n, j + m' = n := ⟨_, rfl⟩
        have hn2 : n ≤ 255 := by omega
        have hn1 : 1 ≤ n := by omega
        have HEN := Lib.hid (fun (va : Option Addr) (vc : Nat) (z : List (List Nat)) (w : World) (h : GridAt w va vc z) (hz : z.length = j) (hw : (z.getD 0 []).length ≤ 1000000000) => enc_any m' va vc j n z w h hz hl1 hn hn2 hw)
        have tn : ((n : Int) != (j : Int) + (m' : Int)) = false := by simp; omega
        have tn2 : ((n : Int) != (n : Int)) = false := by simp
        have HA3 := Lib.hid (HS3.out.below hb.out)
        have HT3' := Lib.hid (HT3.out.below hb.out)
        have HM1 := Lib.hid hW.out.fst.gridAt
        have HM2 := Lib.hid hW.out.snd.gridAt
        have HB0 := Lib.hid (HB3.out.trans (hb.out.mono HB3.out.size))
        clear hn hW hb hbz HS3 HT3 HB3
        go_wp2_with fail
        refine (HEN.out _ _ s _ HA3.out HL.out (by rw [HK.out]; omega)).mono ?_
        rintro e w4 (⟨hne, _, _⟩ | ⟨_, hfl4, aP, cP, rfl, hP, hb4⟩)
        · exact absurd HEs.out hne
        obtain ⟨bP, offP, _, _, e, _, _⟩ := hP.at 0 (by rw [hfl4]; omega)
        subst e
        have HP4 := Lib.hid hP
        have HA4 := Lib.hid (HA3.out.below hb4)
        have HT4 := Lib.hid (HT3'.out.below hb4)
        have HM14 := Lib.hid (HM1.out.below hb4)
        have HM24 := Lib.hid (HM2.out.below hb4)
        have HB4 := Lib.hid (HB0.out.trans (hb4.mono HB0.out.size))
        clear hfl4 hP hb4 HA3 HT3' HM1 HM2 HB0
        go_wp2_with fail
        refine (HEN.out _ _ t _ HT4.out HL'.out (by rw [HK'.out]; omega)).mono ?_
        rintro e w5 (⟨hne, _, _⟩ | ⟨_, hfl5, aQ, cQ, rfl, hQ, hb5⟩)
        · exact absurd HEt.out hne
        obtain ⟨bQ, offQ, _, _, e, _, _⟩ := hQ.at 0 (by rw [hfl5]; omega)
        subst e
        have HQ5 := Lib.hid hQ
        have HP5 := Lib.hid (HP4.out.below hb5)
        have HA5 := Lib.hid (HA4.out.below hb5)
        have HM15 := Lib.hid (HM14.out.below hb5)
        have HM25 := Lib.hid (HM24.out.below hb5)
        have HB5 := Lib.hid (HB4.out.trans (hb5.mono HB4.out.size))
        clear hfl5 hQ hb5 HA4 HT4 HM14 HM24 HB4 HP4
        have HW1 : Hid (((msum s t k j).getD 0 []).length = k) := by show _ = _; rw [msum_row s t k j 0 (by omega), rsum_len]
        have HW2 : Hid (((mtim s x k j).getD 0 []).length = k) := by show _ = _; rw [mtim_row s x k j 0 (by omega), rtim_len]
        go_wp2_with fail
        refine (HEN.out _ _ (msum s t k j) _ HM15.out (msum_len _ _ _ _) (by rw [HW1.out]; omega)).mono ?_
        rintro e w6 (⟨hne, _, _⟩ | ⟨_, hfl6, aR, cR, rfl, hR, hb6⟩)
        · exact absurd (msum_ev s t k j) hne
        obtain ⟨bR, offR, _, _, e, _, _⟩ := hR.at 0 (by rw [hfl6]; omega)
        subst e
        have HR6 := Lib.hid hR
        have HQ6 := Lib.hid (HQ5.out.below hb6)
        have HP6 := Lib.hid (HP5.out.below hb6)
        have HA6 := Lib.hid (HA5.out.below hb6)
        have HM26 := Lib.hid (HM25.out.below hb6)
        have HB6 := Lib.hid (HB5.out.trans (hb6.mono HB5.out.size))
        clear hfl6 hR hb6 HA5 HM15 HM25 HB5 HP5 HQ5
        go_wp2_with fail
        refine (HEN.out _ _ (mtim s x k j) _ HM26.out (mtim_len _ _ _ _) (by rw [HW2.out]; omega)).mono ?_
        rintro e w7 (⟨hne, _, _⟩ | ⟨_, hfl7, aU, cU, rfl, hU, hb7⟩)
        · exact absurd (mtim_ev s x k j) hne
        obtain ⟨bU, offU, _, _, e, _, _⟩ := hU.at 0 (by rw [hfl7]; omega)
        subst e
        have HU7 := Lib.hid hU
        have HR7 := Lib.hid (HR6.out.below hb7)
        have HQ7 := Lib.hid (HQ6.out.below hb7)
        have HP7 := Lib.hid (HP6.out.below hb7)
        have HA7 := Lib.hid (HA6.out.below hb7)
        have HB7 := Lib.hid (HB6.out.trans (hb7.mono HB6.out.size))
        clear hfl7 hU hb7 HA6 HM26 HB6 HP6 HQ6 HR6 HEN
        obtain ⟨b', off', ra0, rc0, e, hca0, _⟩ := HA7.out.at 0 (by rw [HL.out]; omega)
        cases e
        rw [Nat.add_zero, HK.out] at hca0
        have HCA0 := Lib.hid hca0
        clear hca0
        have l0 : (0 : Int) < (j : Int) := by omega
        go_wp2
        clear tn tn2
        go_loopw [24, 25] (fun i _ ws => ∃ q d : Nat, q ≤ n ∧ i = .int .i64 q ∧ ws = w7.drewN d) (fun i _ _ => n - (intOf i).toNat)
        case atStart => exact ⟨0, 0, Nat.zero_le _, rfl, rfl⟩
        case round =>
          obtain ⟨q, d, hq, rfl, hws⟩ := hrel
          have HW := Lib.hid hws
          clear hws
          by_cases hlq : q < n
          · go_wp2
            go_loopw [25] (fun i ws => ∃ c d : Nat, c ≤ k ∧ i = .int .i64 c ∧ ws = w7.drewN d) (fun i _ => k - (intOf i).toNat)
            case atStart => exact ⟨0, d, Nat.zero_le _, rfl, HW.out⟩
            case round =>
              clear HW d
              obtain ⟨c, d, hc, rfl, hws⟩ := hrel
              have HW := Lib.hid hws
              have hc0 : wr.cell? ⟨bS, offS, none⟩ = some (.slice ra0 k rc0) := by rw [hws]; exact HCA0.out
              by_cases hlc : c < k
              · have HFS : Hid (∀ z : List (List Nat), (z.getD 0 []).length = k → (frag z q).length = k) := fun z hz => by rw [frag_len, hz]
                obtain ⟨b', off', rp, rpc, e, hp0, hpS⟩ := HP7.out.at q (by rw [frags_len]; exact hlq)
                cases e
                obtain ⟨b', off', rq, rqc, e, hq0, hqS⟩ := HQ7.out.at q (by rw [frags_len]; exact hlq)
                cases e
                obtain ⟨b', off', rr, rrc, e, hr0, hrS⟩ := HR7.out.at q (by rw [frags_len]; exact hlq)
                cases e
                obtain ⟨b', off', ru, ruc, e, hu0, huS⟩ := HU7.out.at q (by rw [frags_len]; exact hlq)
                cases e
                rw [frags_row _ n q hlq] at hp0 hpS hq0 hqS hr0 hrS hu0 huS
                rw [HFS.out s HK.out] at hp0
                rw [HFS.out t HK'.out] at hq0
                rw [HFS.out _ HW1.out] at hr0
                rw [HFS.out _ HW2.out] at hu0
                obtain ⟨xp, op, e, hpc⟩ := hpS.cell c (by rw [HFS.out s HK.out]; exact hlc)
                subst e
                obtain ⟨xq, oq, e, hqc⟩ := hqS.cell c (by rw [HFS.out t HK'.out]; exact hlc)
                subst e
                obtain ⟨xr, oR, e, hrc⟩ := hrS.cell c (by rw [HFS.out _ HW1.out]; exact hlc)
                subst e
                obtain ⟨xu, ou, e, huc⟩ := huS.cell c (by rw [HFS.out _ HW2.out]; exact hlc)
                subst e
                rw [frag_sum s t k j q c HL.out HL'.out hl1 HK.out HK'.out hlc] at hrc
                rw [frag_mul s x k j q c HBS.out hx HL.out hl1 HK.out hlc] at huc
                have hub := bytes_get (frag s q) c hpS.byte
                have hvb := bytes_get (frag t q) c hqS.byte
                have z1 : wr.cell? ⟨bP, offP + q, none⟩ = some (.slice (some ⟨xp, op, none⟩) k rpc) := by rw [hws]; exact hp0
                have z2 : wr.cell? ⟨bQ, offQ + q, none⟩ = some (.slice (some ⟨xq, oq, none⟩) k rqc) := by rw [hws]; exact hq0
                have z3 : wr.cell? ⟨bR, offR + q, none⟩ = some (.slice (some ⟨xr, oR, none⟩) k rrc) := by rw [hws]; exact hr0
                have z4 : wr.cell? ⟨bU, offU + q, none⟩ = some (.slice (some ⟨xu, ou, none⟩) k ruc) := by rw [hws]; exact hu0
                have y1 : wr.cell? ⟨xp, op + c, none⟩ = some (.int .u8 (((frag s q).getD c 0 : Nat) : Int)) := by rw [hws]; exact hpc
                have y2 : wr.cell? ⟨xq, oq + c, none⟩ = some (.int .u8 (((frag t q).getD c 0 : Nat) : Int)) := by rw [hws]; exact hqc
                have y3 : wr.cell? ⟨xr, oR + c, none⟩ = some (.int .u8 (((frag s q).getD c 0 ^^^ (frag t q).getD c 0 : Nat) : Int)) := by rw [hws]; exact hrc
                have y4 : wr.cell? ⟨xu, ou + c, none⟩ = some (.int .u8 ((Gf.gm ((frag s q).getD c 0) x : Nat) : Int)) := by rw [hws]; exact huc
                clear hp0 hpS hq0 hqS hr0 hrS hu0 huS hpc hqc hrc huc hws
                generalize (frag s q).getD c 0 = u at *
                generalize (frag t q).getD c 0 = v at *
                have hxx := u8_xor_nat u v hub hvb
                have hgl := Gf.gm_lt u x hub
                have t3 : (((u ^^^ v : Nat) : Int) != ((u ^^^ v : Nat) : Int)) = false := by simp
                have t4 : (((Gf.gm u x : Nat) : Int) != ((Gf.gm u x : Nat) : Int)) = false := by simp
                have q0 : (0 : Int) ≤ (q : Int) := by omega
                have q1 : (q : Int) < (n : Int) := by omega
                have c0 : (0 : Int) ≤ (c : Int) := by omega
                have c1 : (c : Int) < (k : Int) := by omega
                go_wp2
                go_quiet ((go_at_call 23; exact quiet_left' (ref_gm _ _ _ (by omega) (by omega))))
                go_wp2
                go_round
                case rel => exact ⟨c + 1, d + nq, by omega, by go_num, by rw [HW.out, World.drewN_drewN]⟩
                case measure => simp [intOf]; omega
              · obtain rfl : c = k := by omega
                clear hws
                go_wp2
                go_round
                case rel => exact ⟨q + 1, d, by omega, by go_num, HW.out⟩
                case measure => simp [intOf]; omega
          · obtain rfl : q = n := by omega
            go_wp2_with fail
            refine (awake3 _).mono ?_
            rintro e w8 ⟨rfl, hb8⟩
            have HB8 := Lib.hid (HB7.out.trans (by have := below_drewN w7 d; rw [← HW.out] at this; exact (this.trans (hb8.mono this.size)).mono HB7.out.size))
            go_wp2
            go_ret
            exact ⟨rfl, HB8.out⟩

end Go.Proofs.Ytnhledngeicekaa
