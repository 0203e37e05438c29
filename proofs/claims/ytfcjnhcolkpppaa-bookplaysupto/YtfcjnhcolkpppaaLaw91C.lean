/-
  The walk of the law BookPlays: Tear, and Start with Open.
-/
import Derived.Test.YtfcjnhcolkpppaaLaw91
namespace Go.Proofs.Ytfcjnhcolkpppaa
open Go.RowKit












set_option maxRecDepth 100000 in
set_option maxHeartbeats 20000000 in
theorem bookC : bookCut.C := by
  intro len1 cap1 m1 w N hN hm1 HL hrm q1 w2 R w3 RB0 a3 ga3 rest3 F3 HP0 q2 q3 wr u4 u13 u14 u15 u16 u17 u18 u19 u35 u36 u37 u38 u39 u40 u41 u42 u43 u44 u45 u46 u47 u48 u49 u50 u51 u52 u53 u54 u55 u56 u57 u58 u59 u60 u61 u62 u63 u64 u65 u66 u67 u68 u69 u70 u71 u72 u73 u74 u75 u76 u77 u78 u79 u80 u81 u82 u83 u84 u85 u86 u87 u88 u89 u90 u91 u92 u93 u94 u95 u96 u97 u98 u99 u100 u101 u102 u103 u104 u105 u106 u107 u108 u109 u110 u111 u112 u113 u114 u115 u116 u117 u118 u119 u120 u121 u122 u123 u124 u125 u126 u127 u128 u129 u130 u131 u132 u133 u134 u135 u136 u137 u138 u139 u140 u141 u142 u143 u144 u145 u146 u147 u148 u149 u150 u151 u152 u153 u154 u155 u156 u157 u158 u159 u160 u161 u162 u163 u164 u165 u166 u167 k n vc t RB va a ga s cs F ys x d hk hk30 hnk ht HN j0 j1 j2 j3 hlt2 hlt1 b off HG what na r ma mc ea ec lo hi HR0 HBK wf0 wf1 lm le HLM HLE q4 q5 q6 q7 q8 q9 q10 q11 q12 x2 HP HMD hle6 B HBO HX2 c0 c1 c2 c3 c4 c5 c6 c7 e1 e0
  have t1 : (what == 1) = false := by simp [e1]
  have t0 : (what == 0) = false := by simp [e0]
  clear e1 e0
  go_upto_block 2 with fail
  go_cut [6, 8, 9, 10, 11] (fun bk ls tn te dn wx => ∃ (n' vc t RB : Nat) (va a ga : Option Addr) (s : DS) (cs : List (List Nat)) (F : List Nat) (ys : List Rl) (x d : Bool), n' ≤ k + 1 ∧ t ≤ 9223372036854775807 ∧ bk = .pointer (some ⟨RB, 0, none⟩) ∧ ls = .slice va n' vc ∧ tn = .bool x ∧ te = .int .i64 (t : Int) ∧ dn = .bool d ∧ Hid (ys.length = n') ∧ Hid (P9 w wx N RB R a ga s cs F va vc ys x t d))
  case first =>
    by_cases e2 : what = 2
    · have t2 : (what == 2) = true := by simp [e2]
      clear e2
      have hn12 := wf_i64 wf1
      unfold I64 at hn12
      have HRM : Hid (R ∉ [B] ∧ B ∉ [R]) := by
        have h1 := HBO.out
        unfold bkM at h1
        simp only [List.mem_cons, not_or] at h1
        exact ⟨by simp; exact fun e => h1.2.1 e.symm, by simp; exact h1.2.1⟩
      go_wp2_with fail
      refine (disk_tear w.heap.size R a s na _ HP.out.st.bk.dsk).mono ?_
      rintro e y2 ⟨rfl, hd2, hg2⟩
      have HX' := Lib.hid (HX2.out.chg hg2 HRM.out.2)
      have HP' := Lib.hid (HP.out.tear na.toNat hd2 hg2)
      clear c0 c1 c2 c3 c4 c5 c6 c7
      clear hd2 hg2 HP HX2
      have c0 := HX'.out.c0
      have c1 := HX'.out.c1
      have c2 := HX'.out.c2
      have c3 := HX'.out.c3
      have c4 := HX'.out.c4
      have c5 := HX'.out.c5
      have c6 := HX'.out.d0
      have c7 := HX'.out.d1
      go_upto_region 49 with fail
      have HXD := Lib.hid (HX'.out.below (Below.drew (Below.refl _ y2)))
      have HPD := Lib.hid (HP'.out.below (Below.drew (Below.refl _ y2)))
      clear c0 c1 c2 c3 c4 c5 c6 c7
      refine wp_region_ext (by kernel_rfl) ?_
      refine wpAnyH_tk (i := 0) 155 (v := ?_) rfl rfl (by kernel_rfl) (by kernel_rfl) (by kernel_rfl) (by rfl) (fun wq hwq => ?_) ?_
      rotate_left
      · (go_simp <;> with_reducible rfl)
      simp only [List.setIfInBounds_toArray, List.set_cons_zero, List.set_cons_succ]
      refine wpAnyH_tk (i := 1) 156 (v := ?_) rfl rfl (by kernel_rfl) (by kernel_rfl) (by kernel_rfl) (by rfl) (fun wq hwq => ?_) ?_
      rotate_left
      · (have hx := (HXD.out.below hwq).d1; go_simp <;> with_reducible rfl)
      simp only [List.setIfInBounds_toArray, List.set_cons_zero, List.set_cons_succ]
      refine wpAnyH_tk (i := 2) 9 (v := ?_) rfl rfl (by kernel_rfl) (by kernel_rfl) (by kernel_rfl) (by rfl) (fun wq hwq => ?_) ?_
      rotate_left
      · (go_simp <;> with_reducible rfl)
      simp only [List.setIfInBounds_toArray, List.set_cons_zero, List.set_cons_succ]
      refine wpAnyH_tk (i := 3) 10 (v := ?_) rfl rfl (by kernel_rfl) (by kernel_rfl) (by kernel_rfl) (by rfl) (fun wq hwq => ?_) ?_
      rotate_left
      · (go_simp <;> with_reducible rfl)
      simp only [List.setIfInBounds_toArray, List.set_cons_zero, List.set_cons_succ]
      refine wpAnyH_done (by kernel_rfl) ?_ _
      refine NoPanic.normal ?_
      clear HXD HX' HP'
      by_cases hn : na < 0
      · have e2 : decide (na < 0) = true := by simp; omega
        have HNN : Hid (na.toNat = 0) := by show _ = _; omega
        go_wp2_with fail
        go_meet
        first
          | exact ⟨n, vc, na.toNat, RB, va, a, ga, _, cs, F, ys, true, d, by omega, by omega, rfl, rfl, rfl, by rw [HNN.out]; rfl, rfl, HN, HPD⟩
          | ((repeat apply Exists.intro); exact ⟨⟨n, vc, na.toNat, RB, va, a, ga, _, cs, F, ys, true, d, by omega, by omega, rfl, rfl, rfl, by rw [HNN.out]; rfl, rfl, HN, HPD⟩, rfl⟩)
      · have e2 : decide (na < 0) = false := by simp; omega
        have HNN : Hid (na = (na.toNat : Int)) := by show _ = _; omega
        go_wp2_with fail
        go_meet
        first
          | exact ⟨n, vc, na.toNat, RB, va, a, ga, _, cs, F, ys, true, d, by omega, by omega, rfl, rfl, rfl, by rw [← HNN.out], rfl, HN, HPD⟩
          | ((repeat apply Exists.intro); exact ⟨⟨n, vc, na.toNat, RB, va, a, ga, _, cs, F, ys, true, d, by omega, by omega, rfl, rfl, rfl, by rw [← HNN.out], rfl, HN, HPD⟩, rfl⟩)
    have t2 : (what == 2) = false := by simp [e2]
    clear e2
    clear c0 c1 c2 c3 c4 c5 c6 c7
    clear HX2
    go_wp2_with fail
    refine (disk_start w.heap.size R a s _ HP.out.st.bk.dsk).mono ?_
    rintro e y2 ⟨rfl, hd2, hg2⟩
    have HD2 := Lib.hid hd2
    have HG2 := Lib.hid hg2
    clear hd2 hg2
    go_wp2_with fail
    refine (bkOpen_any w.heap.size R a _ _ HD2.out rfl rfl).mono ?_
    rintro e y3 ⟨RB2, a4, ga4, cs4, rest4, F4, rfl, hv4, hk4, hm4⟩
    have hag := HP.out.again (t2 := t) (by rw [HN.out]; omega) HD2.out HG2.out hv4 hk4 hm4
    have HGX : Hid (∀ y ∈ ys, GoodX y) := fun y hy => (HP.out.each y hy).1
    obtain ⟨rfl, hp4⟩ := hag
    have HP4 := Lib.hid hp4
    have HZL : Hid ((ys.map encX).length = n) := by show _ = _; rw [List.length_map]; exact HN.out
    clear hp4 hv4 hk4 hm4 HD2 HG2 HP
    go_wp2_with fail
    refine (bkRecords_any w.heap.size RB2 R a4 ga4 _ (ys.map encX) F4 _ HP4.out.st.bk (by rw [HZL.out]; omega) (fun c hc => by obtain ⟨z, hz, rfl⟩ := List.mem_map.mp hc; exact ⟨(HGX.out z hz).enc.1, by have := (HGX.out z hz).len; omega⟩)).mono ?_
    rintro e w5 ⟨vg, vgc, gs, rfl, hgs, hrc, _, hb5⟩
    rw [good_decs ys HGX.out] at hgs
    rw [HZL.out]
    have HGS := Lib.hid hgs
    have HRC := Lib.hid hrc.at_
    have HP5 := Lib.hid (HP4.out.below hb5)
    clear hgs hrc hb5 HP4
    go_wp2_with fail
    refine (sameRecs_any _ _ _ _ n gs ys _ (by rw [xs_len HGS.out, List.length_map]; exact HN.out) HRC.out HN.out HP5.out.list (xs_mem HGS.out (P := Small) (fun q hq => by obtain ⟨z, hz, rfl⟩ := List.mem_map.mp hq; exact (HGX.out z hz).small)) (fun y hy => (HGX.out y hy).small)).mono ?_
    rw [encX_map gs, HGS.out, ← encX_map, decide_eq_true rfl]
    rintro e w6 ⟨rfl, hb6⟩
    have HP6 := Lib.hid (HP5.out.below hb6)
    clear hb6 HP5
    go_wp2_with fail
    go_meet
    first
      | exact ⟨n, vc, t, RB2, va, a4, ga4, _, _, F4, ys, false, false, by omega, ht, rfl, rfl, rfl, rfl, rfl, HN, HP6⟩
      | ((repeat apply Exists.intro); exact ⟨⟨n, vc, t, RB2, va, a4, ga4, _, _, F4, ys, false, false, by omega, ht, rfl, rfl, rfl, rfl, rfl, HN, HP6⟩, rfl⟩)
  case rest =>
  clear HX2 HP HBO HN
  obtain ⟨n', vc, t, RB, va, a, ga, s, cs, F, ys, x, d, hn', ht, rfl, rfl, rfl, rfl, rfl, HN, HP⟩ := hcut
  cases d with
  | true =>
    go_wp2_with fail
    go_roundw
    case rel => exact ⟨k + 1, n', vc, t, RB, va, a, ga, s, cs, F, ys, x, true, by omega, by omega, hn', ht, rfl, rfl, rfl, rfl, rfl, by go_num, HN, HP⟩
    case measure => simp [intOf]; omega
  | false =>
    obtain ⟨hps, hcs, _, _⟩ := HP.out.up rfl
    subst hcs
    have HGX : Hid (∀ y ∈ ys, GoodX y) := fun y hy => (HP.out.each y hy).1
    have HZL : Hid ((ys.map encX).length = n') := by show _ = _; rw [List.length_map]; exact HN.out
    clear hps
    go_wp2_with fail
    refine (bkRecords_any w.heap.size RB R a ga _ (ys.map encX) F _ HP.out.st.bk (by rw [HZL.out]; omega) (fun c hc => by obtain ⟨z, hz, rfl⟩ := List.mem_map.mp hc; exact ⟨(HGX.out z hz).enc.1, by have := (HGX.out z hz).len; omega⟩)).mono ?_
    rintro e w5 ⟨vg, vgc, gs, rfl, hgs, hrc, _, hb5⟩
    rw [good_decs ys HGX.out] at hgs
    rw [HZL.out]
    have HGS := Lib.hid hgs
    have HRC := Lib.hid hrc.at_
    have HP5 := Lib.hid (HP.out.below hb5)
    clear hgs hrc hb5 HP
    go_wp2_with fail
    refine (sameRecs_any _ _ _ _ n' gs ys _ (by rw [xs_len HGS.out, List.length_map]; exact HN.out) HRC.out HN.out HP5.out.list (xs_mem HGS.out (P := Small) (fun q hq => by obtain ⟨z, hz, rfl⟩ := List.mem_map.mp hq; exact (HGX.out z hz).small)) (fun y hy => (HGX.out y hy).small)).mono ?_
    rw [encX_map gs, HGS.out, ← encX_map, decide_eq_true rfl]
    rintro e w6 ⟨rfl, hb6⟩
    have HP6 := Lib.hid (HP5.out.below hb6)
    clear hb6 HP5
    go_wp2_with fail
    go_roundw
    case rel => exact ⟨k + 1, n', vc, t, RB, va, a, ga, s, _, F, ys, x, false, by omega, by omega, hn', ht, rfl, rfl, rfl, rfl, rfl, by go_num, HN, HP6⟩
    case measure => simp [intOf]; omega
end Go.Proofs.Ytfcjnhcolkpppaa
