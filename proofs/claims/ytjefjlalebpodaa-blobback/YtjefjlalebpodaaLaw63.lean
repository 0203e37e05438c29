/-
  The walk of the law BlobBack.
-/
import Derived.Test.YtjefjlalebpodaaLaw61
import Derived.Test.YtjefjlalebpodaaLaw35
namespace Go.Proofs.Ytjefjlalebpodaa
open Go.RowKit



theorem sliceF_less (g n c : Nat) (hn : 1 ≤ n) (hc : n ≤ c) (w : World) : (Instr.slice 50 (.slice (some ⟨g, 0, none⟩) n c) none (some (.int .i64 ((n : Int) - 1))) none).run Try.prog w = .ok (.slice (some ⟨g, 0, none⟩) (n - 1) c) w := by
  rw [run_slice_h w 50 (some ⟨g, 0, none⟩) n c (by kernel_rfl) .i64 ((n : Int) - 1) (by omega) (by omega)]
  have hs : (sizeOf (Try.prog.elem 50)).run Try.prog w = .ok 2 w := by kernel_rfl
  rw [hs]
  have e : ((n : Int) - 1).toNat = n - 1 := by omega
  simp [Result.andThen, sliced, Addr.add, e]

theorem sliceF_less' (g n c : Nat) (hn : 1 ≤ n) (hc : n ≤ c) (w : World) : (Instr.sliceAt 50 (.slice (some ⟨g, 0, none⟩) n c) none (some (.int .i64 ((n : Int) - 1))) none).run Try.prog w = .ok (.slice (some ⟨g, 0, none⟩) (n - 1) c) w := by
  rw [run_sliceAt_slice w 50 _ _ _ _ (by kernel_rfl)]
  exact sliceF_less g n c hn hc w

theorem fst1_len (acc : List Fr) (f : Fr) : (fst1 acc f).length ≤ acc.length + 1 := by
  unfold fst1
  split <;> simp

theorem firsts_le (fs : List Fr) : (firsts fs).length ≤ fs.length := by
  have h : ∀ (gs acc : List Fr), (gs.foldl fst1 acc).length ≤ acc.length + gs.length := by
    intro gs
    induction gs with
    | nil => intro acc; simp
    | cons g gs ih =>
      intro acc
      have h1 := ih (fst1 acc g)
      have h2 := fst1_len acc g
      rw [List.foldl_cons, List.length_cons]
      omega
  have := h fs []
  simpa [firsts] using this

theorem good_take {n : Nat} {fs : List Fr} (h : Good n fs) (j : Nat) : Good n (fs.take j) := by
  intro i hi
  have hi' : i < j ∧ i < fs.length := by rw [List.length_take] at hi; omega
  have := h i hi'.2
  have e1 : (fs.take j).getD i fr0 = fs.getD i fr0 := getD_takeB _ _ _ _ hi'.1
  have e2 : (fs.take j).getD 0 fr0 = fs.getD 0 fr0 := getD_takeB _ _ _ _ (by omega)
  rw [e1, e2]
  exact this

theorem take_data (fs : List Fr) (j k : Nat) (h : (fs.getD 0 fr0).data.length = k) : ((fs.take j).getD 0 fr0).data.length ≤ k := by
  by_cases hj : j = 0
  · subst hj; exact Nat.zero_le _
  · rw [getD_takeB _ _ _ _ (by omega)]; omega

set_option maxRecDepth 100000 in
set_option maxHeartbeats 16000000 in
theorem blobBack_walk (a0 a1 : Int) (a2 : Option Addr) (len2 cap2 : Nat) (m2 : List Nat) (a3 : Option Addr) (len3 cap3 : Nat) (m3 : List Nat) (w : World) (w0 : (Lit.int .u8 a0).wf = true) (w1 : (Lit.int .u8 a1).wf = true) (w2 : m2.length = len2 ∧ SeenAt w a2 cap2 m2) (w3 : m3.length = len3 ∧ SeenAt w a3 cap3 m3) :
    Calls Try.prog 10 #[.int .u8 a0, .int .u8 a1, .slice a2 len2 cap2, .slice a3 len3 cap3] w fun e w' => e = .returned (.bool true) ∧ Below w.heap.size w w' := by
  obtain ⟨kk, hkk, rfl⟩ := byte_of w0
  obtain ⟨mm, hmm, rfl⟩ := byte_of w1
  have h2 : len2 ≤ cap2 := by have := w2.1; have := w2.2.le; omega
  have hm2 : cap2 ≤ maxLen := w2.2.max
  unfold maxLen at hm2
  have H2 := Lib.hid w2.1
  have S2 := Lib.hid w2.2
  have HOL := Lib.hid w3.1
  have HOS := Lib.hid w3.2
  have hlo := Nat.le_trans w3.2.le w3.2.max
  rw [w3.1] at hlo
  unfold maxLen at hlo
  clear w0 w1 w2 w3
  have HNZ : Hid ((kk : Int) % 6 + 1 = ((kk % 6 + 1 : Nat) : Int)) := by show _ = _; omega
  have HMZ : Hid ((mm : Int) % 5 = ((mm % 5 : Nat) : Int)) := by show _ = _; omega
  have hsl : kk % 6 + 1 ≤ 6 := by omega
  have hl1 : 1 ≤ kk % 6 + 1 := by omega
  have hm9 : mm % 5 ≤ 4 := by omega
  go_enter Try.func10, Try.ntmps10
  go_upto_if 24 with fail
  go_cut [2, 24] (fun s _ wx => Clmp w a2 cap2 256 s ∧ wx = w)
  case first =>
    by_cases hM : 256 < len2
    · have d1 : decide ((256 : Int) < (len2 : Int)) = true := by simp; omega
      obtain ⟨b, off, e, _⟩ := (S2.out).cell 0 (by rw [H2.out]; omega)
      subst e
      have hcc : 256 ≤ cap2 := by omega
      have HTK := Lib.hid ((S2.out).take 256)
      have HTL : Hid ((List.take 256 m2).length = 256) := by show _ = _; rw [List.length_take, H2.out]; omega
      go_wp2_with fail
      go_meet
      exact ⟨⟨256, List.take 256 m2, rfl, by omega, HTL.out, HTK.out⟩, rfl⟩
    · have d1 : decide ((256 : Int) < (len2 : Int)) = false := by simp; omega
      go_wp2_with fail
      go_meet
      exact ⟨⟨len2, m2, rfl, by omega, H2.out, S2.out⟩, rfl⟩
  case rest =>
  obtain ⟨⟨ld, ps, rfl, hl3, hl, hs⟩, hw⟩ := hcut
  obtain rfl := hw.symm
  have HLD := Lib.hid hl
  have HSD := Lib.hid hs
  have hlc : ld ≤ cap2 := by rw [← hl]; exact hs.le
  clear hl hs H2 S2
  go_wp2_with fail
  rw [HNZ.out, HMZ.out]
  clear HNZ HMZ hkk hmm
  generalize kk % 6 + 1 = l at *
  generalize mm % 5 = m' at *
  obtain ⟨n, hn⟩ : ∃ n, l + m' = n := ⟨_, rfl⟩
  have hn2 : n ≤ 255 := by omega
  have HEN := Lib.hid (fun w => fun h => encB_any l m' n a2 cap2 ld ps w HLD.out h (by omega) hl1 hn hn2)
  have HL := Lib.hid (shds_len ps l)
  have HE := Lib.hid (shds_ev ps l)
  have HBY := Lib.hid (shds_by ps l HSD.out.byte)
  have HK0 : Hid (((shds ps l).getD 0 []).length = wd ld l) := by show _ = _; rw [shds_width ps l hl1, HLD.out]
  have HCAT : Hid (catP ld (shds ps l) = ps) := by show _ = _; rw [← HLD.out]; exact shds_cat ps l hl1
  have hk20 := wd_le ld l hl1
  generalize hk0 : wd ld l = k0 at *
  have HWK := Lib.hid hk0
  clear hk0
  generalize shds ps l = s at *
  have tn : ((n : Int) != (l : Int) + (m' : Int)) = false := by simp; omega
  have hln : l ≤ n := by omega
  have hnl : l + m' ≤ n := by omega
  have hnl2 : n ≤ l + m' := by omega
  have HN := Lib.hid hn
  clear hn
  refine (HEN.out _ HSD.out).mono ?_
  rintro e w2 ⟨hfl, aF, cF, rfl, hF, hb2⟩
  have HB2 := Lib.hid hb2
  have HF := Lib.hid hF
  have HFL := Lib.hid hfl
  have HSD2 := Lib.hid (HSD.out.below hb2)
  have HOS2 := Lib.hid (HOS.out.below hb2)
  obtain ⟨bF, offF, _, _, e, _, _⟩ := hF.at 0 (by rw [hfl]; omega)
  subst e
  have HIN := Lib.hid (ownI_none w2 w2.heap.size (Nat.le_refl _))
  clear hF hfl hb2
  go_wp2
  clear tn
  go_loopw [13, 14] (fun t i ws => ∃ j g c : Nat, j ≤ n ∧ i = .int .i64 j ∧ t = .slice (some ⟨g, 0, none⟩) j c ∧ Hid (OwnI ws w2.heap.size g c (List.range j)) ∧ Hid (Below w2.heap.size w2 ws)) (fun _ i _ => n - (intOf i).toNat)
  case atStart => exact ⟨0, _, _, Nat.zero_le _, rfl, rfl, HIN, below_one _ _⟩
  case round =>
    obtain ⟨j, g, c, hj, rfl, rfl, hI, hb⟩ := hrel
    have hbz := hb.out.size
    by_cases hlt : j < n
    · have hlt' : (j : Int) < (l : Int) + (m' : Int) := by omega
      obtain ⟨g', c', w3, hrun, hI3, hC3, hat3⟩ := run_appI (wr.alloc (.cells #[.int .i64 (j : Int)] 3)) 29 w2.heap.size g c j 1 wr.heap.size 0 1 (List.range j) [j] (by simp) rfl (hI.out.below (below_one _ _)) (fun q hq => by obtain rfl : q = 0 := (by omega); exact cell_new' _ _ _ _ rfl) (by omega) (by simp; omega)
      have HI3 := Lib.hid hI3
      have HB3 := Lib.hid (hC3.below (hb.out.alloc hbz _) (by simp; omega) (by simp; exact hI.out.lt.1))
      have HRN := Lib.hid hrun
      clear hI3 hC3 hat3 hrun
      go_wp2_with (at_builtin; refine wpList_run_append rfl (.tmp 59) (.tmp 61) 29 rfl _ _ _ _ rfl rfl HRN.out ?_)
      go_round
      case rel => exact ⟨j + 1, g', c', by omega, by go_num, rfl, by rw [List.range_succ]; exact HI3, HB3⟩
      case measure => simp [intOf]; omega
    · obtain rfl : j = n := by omega
      have hlt' : ¬ (j : Int) < (l : Int) + (m' : Int) := by omega
      have HP0 : Hid (PickA w2 (wr.alloc (.cells #[] 52)) g c wr.heap.size 0 j 0 k0 s (List.range j) []) := ⟨hI.out.below (below_one _ _), oldF_none w2 wr hbz, rfl, List.nodup_range, fun x hx => List.mem_range.mp hx, by simp, by simp [poss]⟩
      have HB0 := Lib.hid (hb.out.alloc hbz (.cells #[] 52))
      clear hI hb hbz
      go_wp2
      go_loopw [13, 15, 16, 17] (fun s11 s13 i _ ws => ∃ (q gL cL r g cp : Nat) (xs : List Nat) (fs : List Fr), q ≤ l ∧ i = .int .i64 q ∧ s11 = .slice (some ⟨gL, 0, none⟩) r cL ∧ s13 = .slice (some ⟨g, 0, none⟩) q cp ∧ r + q ≤ j ∧ j ≤ r + q ∧ Hid (xs.length = r) ∧ Hid (PickA w2 ws gL cL g cp j q k0 s xs fs) ∧ Hid (Below w2.heap.size w2 ws)) (fun _ _ i _ _ => l - (intOf i).toNat)
      case atStart => exact ⟨0, _, _, _, _, _, _, _, Nat.zero_le _, rfl, rfl, rfl, by omega, by omega, by show _ = _; simp, HP0, HB0⟩
      case round =>
        clear HP0 HB0
        obtain ⟨q, gL, cL, r, gF, cp, xs, fs, hq, rfl, rfl, rfl, hr1, hr2, hX, hP, hb⟩ := hrel
        have hbz := hb.out.size
        by_cases hlq : q < l
        · have hr0 : 1 ≤ r := by omega
          have hcL := hP.out.left.cap_le.1
          have hcM := hP.out.left.cap_le.2
          rw [hX.out] at hcL
          unfold maxLen at hcM
          go_upto_region 17 with fail
          go_cut [72] (fun sl wx => (∃ b, sl = .bool b ∧ (b = true → q < len3)) ∧ wx = wr)
          case first =>
            by_cases hio : q < len3
            · have d1 : decide ((q : Int) < (len3 : Int)) = true := decide_eq_true (by omega)
              have d2 : decide (q < len3) = true := decide_eq_true hio
              go_wp2_with fail
              go_meet
              exact ⟨⟨_, rfl, fun _ => hio⟩, rfl⟩
            · have d1 : decide ((q : Int) < (len3 : Int)) = false := decide_eq_false (by omega)
              have d2 : decide (q < len3) = false := decide_eq_false hio
              go_wp2_with fail
              go_meet
              exact ⟨⟨_, rfl, fun e => by simp at e⟩, rfl⟩
          case rest =>
          obtain ⟨⟨bo, rfl, hbo⟩, rfl⟩ := hcut
          go_upto_if 72 with fail
          go_cut [17] (fun sl wx => (∃ t : Nat, t < r ∧ sl = .int .i64 (t : Int)) ∧ wx = wc)
          case first =>
            cases bo with
            | true =>
              have hql := hbo rfl
              clear hbo
              obtain ⟨xb, xoff, e, hx0⟩ := HOS2.out.cell q (by rw [HOL.out]; exact hql)
              subst e
              have hx := cell_later hb.out hx0
              have hxb := bytes_get m3 q HOS2.out.byte
              clear hx0
              generalize m3.getD q 0 = xo at *
              have hme : (xo : Int) % (r : Int) = ((xo % r : Nat) : Int) := by push_cast; rfl
              have hml := Nat.mod_lt xo (show 0 < r by omega)
              have o0 : (0 : Int) ≤ (q : Int) := by omega
              have o1 : (q : Int) < (len3 : Int) := by omega
              go_wp2_with fail
              go_meet
              exact ⟨⟨xo % r, hml, by first | rfl | rw [hme]⟩, rfl⟩
            | false =>
              go_wp2_with fail
              go_meet
              exact ⟨⟨0, by omega, rfl⟩, rfl⟩
          case rest =>
          obtain ⟨⟨t, htr, rfl⟩, rfl⟩ := hcut
          obtain ⟨p, hp⟩ : ∃ p, xs.getD t 0 = p := ⟨_, rfl⟩
          have htx : t < xs.length := by rw [hX.out]; exact htr
          have hpN : p < j := by rw [← hp]; exact hP.out.xlt _ (getD_mem xs t 0 htx)
          have hcx := hP.out.left.cell t htx
          rw [hp] at hcx
          have HPX := Lib.hid hp
          obtain ⟨b', off', ra, rc, e, hcj0, hSj0⟩ := HF.out.at p (by rw [HFL.out]; exact hpN)
          cases e
          rw [frags_row s j p hpN] at hcj0 hSj0
          have HFLL : Hid ((frag s p).length = k0) := by show _ = _; rw [frag_len, HK0.out]
          rw [HFLL.out] at hcj0
          have hcj := cell_later hb.out hcj0
          have HSJ := Lib.hid hSj0
          obtain ⟨g', cp', w4, hrun, hL4, hg4, hat4⟩ := run_appF (w0 := w2) (wc.drew.alloc (.cells #[.int .i64 (p : Int), .slice ra k0 rc] 52)) 50 (.slice (some ⟨gF, 0, none⟩) q cp) fs q wc.heap.size ⟨(p : Int), ra, rc, frag s p⟩ hP.out.flen ((hP.out.list.chg (gs := []) (Chg.refl _ _).drew (by simp)).chg (gs := []) ((Chg.refl _ _).alloc _) (by simp)) hSj0 (wf_nat p (by omega)) (cell_pair0 _ _ _ _ _ rfl) (by show _ = some (Value.slice ra (frag s p).length rc); rw [HFLL.out]; exact cell_pair1 _ _ _ _ _ rfl) (by omega) (by simp; show _ ≤ wc.heap.size + 1; omega)
          have hFlt := hP.out.list.lt gF rfl
          have hne := hP.out.ne
          have hLlt := hP.out.left.lt
          have HL4 := Lib.hid hL4
          have HC4 : Hid (Chg [gF] wc w4) := ((Chg.refl _ _).drew.alloc _).trans (Chg.of_grown hg4)
          have HB4 := Lib.hid (HC4.out.below hb.out hbz (by simp; exact hFlt.1))
          have hz4 := HC4.out.size
          have HI4 := Lib.hid (hP.out.left.chg HC4.out (by simpa using hne))
          have hcxd : wc.drew.cell? ⟨gL, t, none⟩ = some (.int .i64 (p : Int)) := hcx
          have hcjd : wc.drew.cell? ⟨bF, offF + p, none⟩ = some (.slice ra k0 rc) := hcj
          have t0 : (0 : Int) ≤ (t : Int) := by omega
          have t1 : (t : Int) < (r : Int) := by omega
          have p0 : (0 : Int) ≤ (p : Int) := by omega
          have p1 : (p : Int) < (j : Int) := by omega
          have HRUN := Lib.hid hrun
          clear hL4 hg4 hat4 hcj0 hSj0 hp hrun
          go_upto_region 19 with fail
          go_cut [15] (fun sl wx => sl = .slice (some ⟨g', 0, none⟩) (q + 1) cp' ∧ wx = w4)
          case first =>
            go_region_law (refine step_run_append rfl (.tmp 81) (.tmp 94) 50 rfl _ _ _ _ rfl rfl HRUN.out ?_)
            all_goals (go_wp2_with fail; go_meet)
            all_goals exact ⟨rfl, rfl⟩
          case rest =>
          obtain ⟨rfl, rfl⟩ := hcut
          clear hcxd hcjd hcx hcj HRUN
          obtain ⟨g1, c1, w5, g2, c2, w6, hrun1, hrun2, hI6, hb6⟩ := any_out HI4.out hX.out htr (by omega) HB4.out.size
          have HI6 := Lib.hid hI6
          have HB6 := Lib.hid (HB4.out.trans (hb6.mono HB4.out.size))
          have HPN : Hid (PickA w2 w6 g2 c2 g' cp' j (q + 1) k0 s (outOf xs t) (fs ++ [⟨(p : Int), ra, rc, frag s p⟩])) := hP.out.step htx (by rw [HPX.out]) (by rw [HPX.out]) HL4.out hb6 hI6
          have HXL := Lib.hid (outOf_len hX.out htr)
          have hwr : IntKind.i64.wrap ((t : Int) + 1) = (t : Int) + 1 := IntWalk.i64_in _ (by omega)
          have s1 : (t : Int) ≤ (cL : Int) := by omega
          have s2 : (0 : Int) ≤ (t : Int) + 1 := by omega
          have s3 : (t : Int) + 1 ≤ (r : Int) := by omega
          have s4 : cL ≠ 0 := by omega
          have s5 : ¬ cL = 0 := by omega
          clear hI6 hb6
          go_upto_region 20 with fail
          by_cases hcap : cL = t + 1
          · rw [if_pos hcap] at hrun2
            subst hcap
            obtain rfl : r = t + 1 := by omega
            simp only [Nat.sub_self, Nat.add_zero] at hrun2 HXL
            have s6 : (t : Int) ≤ (t : Int) + 1 := by omega
            have s7 : (t : Int) + 1 ≤ (t : Int) + 1 := by omega
            have HR1 := Lib.hid hrun1
            have HR2 := Lib.hid hrun2
            clear hrun1 hrun2
            go_region_law (first | refine step_run_append rfl (.tmp 96) (.tmp 99) 29 rfl _ _ _ _ rfl rfl HR1.out ?_ | refine step_run_append rfl (.tmp 100) (.tmp 104) 29 rfl _ _ _ _ rfl rfl HR2.out ?_)
            all_goals go_wp2
            all_goals go_round
            all_goals first | exact ⟨q + 1, g2, c2, _, g', cp', _, _, by omega, by go_num, rfl, rfl, by omega, by omega, HXL, HPN, HB6⟩ | (simp [intOf]; omega)
          · rw [if_neg hcap] at hrun2
            have HR1 := Lib.hid hrun1
            have HR2 := Lib.hid hrun2
            clear hrun1 hrun2
            go_region_law (first | refine step_run_append rfl (.tmp 96) (.tmp 99) 29 rfl _ _ _ _ rfl rfl HR1.out ?_ | refine step_run_append rfl (.tmp 100) (.tmp 104) 29 rfl _ _ _ _ rfl rfl HR2.out ?_)
            all_goals go_wp2
            all_goals go_round
            all_goals first | exact ⟨q + 1, g2, c2, _, g', cp', _, _, by omega, by go_num, rfl, rfl, by omega, by omega, HXL, HPN, HB6⟩ | (simp [intOf]; omega)
        · obtain rfl : q = l := by omega
          obtain ⟨_, hFR⟩ := hP.out.list.frs hb.out
          obtain ⟨hg1, hg2, hg3, hg4⟩ := any_good hP.out hl1 HL.out HE.out HBY.out HK0.out hFR
          have HG1 := Lib.hid hg1
          have HG2 := Lib.hid hg2
          have HG3 := Lib.hid hg3
          have HG4 := Lib.hid hg4
          have HFR := Lib.hid hFR
          have HFLN := Lib.hid hP.out.flen
          have hcpq : q ≤ cp := by have := hFR.le; rw [hP.out.flen] at this; exact this
          have HS3 := Lib.hid (HSD2.out.below hb.out)
          have HB3 := Lib.hid (HB2.out.trans (hb.out.mono HB2.out.size))
          have HRO := Lib.hid (fun w => fun h => refOf_any a2 cap2 ld ps w HLD.out (by omega) h)
          obtain ⟨z, hz⟩ : ∃ z, Crc.sum ps = z := ⟨_, rfl⟩
          rw [hz] at HRO
          have HDE := Lib.hid (fun w => fun h => decB_any (some ⟨gF, 0, none⟩) cp q q m' j ld z fs w h HFLN.out (by omega) hl1 HN.out hn2 (by rw [HG3.out]; omega) (by omega))
          have HDF := Lib.hid (fun w => fun h => decB_any (some ⟨gF, 0, none⟩) cp (q - 1) q m' j ld z (fs.take (q - 1)) w h (by rw [List.length_take, HFLN.out]; omega) (by omega) hl1 HN.out hn2 (by have := take_data fs (q - 1) k0 HG3.out; omega) (by omega))
          have HGT := Lib.hid (good_take HG1.out (q - 1))
          have HFT : Hid ((firsts (fs.take (q - 1))).length < q) := by
            have h1 := firsts_le (fs.take (q - 1))
            have h2 : (fs.take (q - 1)).length ≤ q - 1 := List.length_take_le _ _
            show _ < _
            omega
          have HZ := Lib.hid hz
          clear hFR hg1 hg2 hg3 hg4 hP hb hz
          go_wp2_with fail
          refine (HRO.out _ HS3.out).mono ?_
          rintro e w4 ⟨rfl, hb4⟩
          have HFR4 := Lib.hid (HFR.out.below hb4)
          have HS4 := Lib.hid (HS3.out.below hb4)
          have HB4 := Lib.hid (HB3.out.trans (hb4.mono HB3.out.size))
          clear hb4 HFR HS3 HB3
          go_wp2_with fail
          refine (HDE.out _ HFR4.out).mono ?_
          rintro e w5 ⟨hb5, ⟨hg, _⟩ | ⟨_, hf, _⟩ | ⟨_, _, V, hBe, _, ⟨hno, _⟩ | ⟨_, _, gV, rfl, hV⟩⟩⟩
          · exact absurd HG1.out hg
          · rw [HG2.out] at hf; omega
          · obtain rfl := HG4.out V hBe
            exact absurd ⟨by rw [HG3.out, HWK.out], by rw [HCAT.out, HZ.out]⟩ hno
          obtain rfl := HG4.out V hBe
          rw [HCAT.out] at hV
          have HV5 := Lib.hid hV.seenAt
          have HS5 := Lib.hid (HS4.out.below hb5)
          have HFR5 := Lib.hid ((HFR4.out.below hb5).take (q - 1))
          have HB5 := Lib.hid (HB4.out.trans (hb5.mono HB4.out.size))
          clear hV hBe hb5 HS4 HFR4 HB4
          have hsl1 := sliceF_less gF q cp hl1 hcpq
          have hsl2 := sliceF_less' gF q cp hl1 hcpq
          have hwq : IntKind.i64.wrap ((q : Int) - 1) = (q : Int) - 1 := IntWalk.i64_in _ (by omega)
          go_wp2_with fail
          refine wp_region_ext (by kernel_rfl) ?_
          have E0 : Hid (Ext w5 w5.drew) := (Below.refl _ _).drew
          generalize w5.drew = w6 at *
          refine wpAnyH_tk (i := 0) 118 (v := ?_) rfl rfl (by kernel_rfl) (by kernel_rfl) (by kernel_rfl) (by rfl) (fun wq hwq => ?_) ?_
          rotate_left
          · (go_simp <;> with_reducible rfl)
          simp only [List.setIfInBounds_toArray, List.set_cons_zero, List.set_cons_succ]
          refine wpAnyH_tk (i := 1) 119 (v := ?_) rfl rfl (by kernel_rfl) (by kernel_rfl) (by kernel_rfl) (by rfl) (fun wq hwq => ?_) ?_
          rotate_left
          · (go_simp <;> with_reducible rfl)
          simp only [List.setIfInBounds_toArray, List.set_cons_zero, List.set_cons_succ]
          refine wpAnyH_tk (i := 2) 120 (v := ?_) rfl rfl (by kernel_rfl) (by kernel_rfl) (by kernel_rfl) (by rfl) (fun wq hwq => ?_) ?_
          rotate_left
          · (go_simp <;> with_reducible rfl)
          simp only [List.setIfInBounds_toArray, List.set_cons_zero, List.set_cons_succ]
          refine wpAnyH_tk (i := 3) 121 (v := ?_) rfl rfl (by kernel_rfl) (by kernel_rfl) (by kernel_rfl) (by rfl) (fun wq hwq => ?_) ?_
          rotate_left
          · (go_simp <;> with_reducible rfl)
          simp only [List.setIfInBounds_toArray, List.set_cons_zero, List.set_cons_succ]
          refine wpAnyH_tk (i := 4) 122 (v := ?_) rfl rfl (by kernel_rfl) (by kernel_rfl) (by kernel_rfl) (by rfl) (fun wq hwq => ?_) ?_
          rotate_left
          · (go_simp <;> with_reducible rfl)
          simp only [List.setIfInBounds_toArray, List.set_cons_zero, List.set_cons_succ]
          refine wpAnyH_tk (i := 6) 124 (v := ?_) rfl rfl (by kernel_rfl) (by kernel_rfl) (by kernel_rfl) (by rfl) (fun wq hwq => ?_) ?_
          rotate_left
          · (go_simp <;> with_reducible rfl)
          simp only [List.setIfInBounds_toArray, List.set_cons_zero, List.set_cons_succ]
          refine wpAnyH_tk (i := 7) 125 (v := ?_) rfl rfl (by kernel_rfl) (by kernel_rfl) (by kernel_rfl) (by rfl) (fun wq hwq => ?_) ?_
          rotate_left
          · (go_simp <;> with_reducible rfl)
          simp only [List.setIfInBounds_toArray, List.set_cons_zero, List.set_cons_succ]
          refine wpAnyH_tk (i := 8) 126 (v := ?_) rfl rfl (by kernel_rfl) (by kernel_rfl) (by kernel_rfl) (by rfl) (fun wq hwq => ?_) ?_
          rotate_left
          · (go_simp <;> with_reducible rfl)
          simp only [List.setIfInBounds_toArray, List.set_cons_zero, List.set_cons_succ]
          refine wpAnyH_tk (i := 9) 127 (v := ?_) rfl rfl (by kernel_rfl) (by kernel_rfl) (by kernel_rfl) (by rfl) (fun wq hwq => ?_) ?_
          rotate_left
          · (go_simp <;> with_reducible rfl)
          simp only [List.setIfInBounds_toArray, List.set_cons_zero, List.set_cons_succ]
          refine wpAnyH_one (i := 5) rfl (by kernel_rfl) (by rfl) (fun K hK => ?_)
          go_simp
          refine (HRO.out _ (HS5.out.below E0.out)).mono ?_
          rintro e w7 ⟨rfl, hb7⟩
          have E7 := Lib.hid (E0.out.trans hb7)
          refine hK.out _ _ hb7 ?_
          clear hK K
          refine wpAnyH_one (i := 10) rfl (by kernel_rfl) (by rfl) (fun K hK => ?_)
          go_simp
          refine (HDF.out _ (HFR5.out.below E7.out)).mono ?_
          rintro e w8 ⟨hb8, ⟨hg, _⟩ | ⟨_, _, rfl⟩ | ⟨_, hf, _⟩⟩
          · exact absurd HGT.out hg
          rotate_left
          · have := HFT.out; omega
          have E8 := Lib.hid (E7.out.trans hb8)
          refine hK.out _ _ hb8 ?_
          clear hK K
          refine wpAnyH_tk (i := 11) 117 (v := ?_) rfl rfl (by kernel_rfl) (by kernel_rfl) (by kernel_rfl) (by rfl) (fun wq hwq => ?_) ?_
          rotate_left
          · (go_simp <;> with_reducible rfl)
          simp only [List.setIfInBounds_toArray, List.set_cons_zero, List.set_cons_succ]
          refine wpAnyH_tk (i := 12) 129 (v := ?_) rfl rfl (by kernel_rfl) (by kernel_rfl) (by kernel_rfl) (by rfl) (fun wq hwq => ?_) ?_
          rotate_left
          · (go_simp <;> with_reducible rfl)
          simp only [List.setIfInBounds_toArray, List.set_cons_zero, List.set_cons_succ]
          refine wpAnyH_tk (i := 13) 130 (v := ?_) rfl rfl (by kernel_rfl) (by kernel_rfl) (by kernel_rfl) (by rfl) (fun wq hwq => ?_) ?_
          rotate_left
          · (go_simp <;> with_reducible rfl)
          simp only [List.setIfInBounds_toArray, List.set_cons_zero, List.set_cons_succ]
          refine wpAnyH_tk (i := 14) 20 (v := ?_) rfl rfl (by kernel_rfl) (by kernel_rfl) (by kernel_rfl) (by rfl) (fun wq hwq => ?_) ?_
          rotate_left
          · (go_simp <;> with_reducible rfl)
          simp only [List.setIfInBounds_toArray, List.set_cons_zero, List.set_cons_succ]
          refine wpAnyH_tk (i := 15) 21 (v := ?_) rfl rfl (by kernel_rfl) (by kernel_rfl) (by kernel_rfl) (by rfl) (fun wq hwq => ?_) ?_
          rotate_left
          · (go_simp <;> with_reducible rfl)
          simp only [List.setIfInBounds_toArray, List.set_cons_zero, List.set_cons_succ]
          refine wpAnyH_done (by kernel_rfl) ?_ _
          refine NoPanic.normal ?_
          have HV8 := Lib.hid (HV5.out.below E8.out)
          have HS8 := Lib.hid (HS5.out.below E8.out)
          have HB8 := Lib.hid (HB5.out.trans (E8.out.mono HB5.out.size))
          clear hsl1 hsl2 hwq
          go_wp2_with fail
          refine (awake6 _).mono ?_
          rintro e w9 ⟨rfl, hb9⟩
          have hst1 := str_at (HV8.out.below hb9) HLD.out
          have hst2 := str_at (HS8.out.below hb9) HLD.out
          have HB9 := Lib.hid (HB8.out.trans (hb9.mono HB8.out.size))
          clear hb9
          generalize strB ps = st at *
          go_wp2
          go_ret
          exact ⟨rfl, HB9.out⟩

end Go.Proofs.Ytjefjlalebpodaa
