/-
  The walk of the law BookPlays: Renew.
-/
import Derived.Test.YtfcjnhcolkpppaaLaw91
namespace Go.Proofs.Ytfcjnhcolkpppaa
open Go.RowKit












set_option maxRecDepth 100000 in
set_option maxHeartbeats 20000000 in
theorem bookA : bookCut.A := by
  intro len1 cap1 m1 w N hN hm1 HL hrm q1 w2 R w3 RB0 a3 ga3 rest3 F3 HP0 q2 q3 wr u4 u13 u14 u15 u16 u17 u18 u19 u35 u36 u37 u38 u39 u40 u41 u42 u43 u44 u45 u46 u47 u48 u49 u50 u51 u52 u53 u54 u55 u56 u57 u58 u59 u60 u61 u62 u63 u64 u65 u66 u67 u68 u69 u70 u71 u72 u73 u74 u75 u76 u77 u78 u79 u80 u81 u82 u83 u84 u85 u86 u87 u88 u89 u90 u91 u92 u93 u94 u95 u96 u97 u98 u99 u100 u101 u102 u103 u104 u105 u106 u107 u108 u109 u110 u111 u112 u113 u114 u115 u116 u117 u118 u119 u120 u121 u122 u123 u124 u125 u126 u127 u128 u129 u130 u131 u132 u133 u134 u135 u136 u137 u138 u139 u140 u141 u142 u143 u144 u145 u146 u147 u148 u149 u150 u151 u152 u153 u154 u155 u156 u157 u158 u159 u160 u161 u162 u163 u164 u165 u166 u167 k n vc t RB va a ga s cs F ys x d hk hk30 hnk ht HN j0 j1 j2 j3 hlt2 hlt1 b off HG what na r ma mc ea ec lo hi HR0 HBK wf0 wf1 lm le HLM HLE q4 q5 q6 q7 q8 q9 q10 q11 q12 x2 HP HMD hle6 B HBO HX2 c0 c1 c2 c3 c4 c5 c6 c7 e1
  have t1 : (what == 1) = true := by simp [e1]
  have t0 : (what == 0) = false := by simp [e1]
  clear e1
  go_upto_block 2 with fail
  go_cut [6, 8, 9, 10, 11] (fun bk ls tn te dn wx => ∃ (n' vc t RB : Nat) (va a ga : Option Addr) (s : DS) (cs : List (List Nat)) (F : List Nat) (ys : List Rl) (x d : Bool), n' ≤ k + 1 ∧ t ≤ 9223372036854775807 ∧ bk = .pointer (some ⟨RB, 0, none⟩) ∧ ls = .slice va n' vc ∧ tn = .bool x ∧ te = .int .i64 (t : Int) ∧ dn = .bool d ∧ Hid (ys.length = n') ∧ Hid (P9 w wx N RB R a ga s cs F va vc ys x t d))
  case first =>
    go_upto_region 21 with fail
    go_cut [14] (fun s wx => ∃ (vw : Option Addr) (vwc : Nat), s = .slice vw (n + 1) vwc ∧ Hid (RcA wx vw vwc (ys ++ [(⟨r, ma, mc, ea, ec, 0, w.heap.size⟩ : Rl)])) ∧ Hid (Ext x2 wx) ∧ Hid (∀ g ∈ blk vw, x2.heap.size ≤ g ∧ g < wx.heap.size))
    case first =>
      rename_i JJ KK hJJ hKK
      refine wp_region_S2 (Ext x2.drew) (by kernel_rfl) ?_
      have hSw := Ext.refl x2.drew
      have EW : Hid (Ext x2 x2.drew) := Below.drew (Below.refl _ x2)
      have HYW := Lib.hid (HP.out.list.below EW.out)
      have HXW : Hid (Rob 0 w.heap.size x2.drew (Rl.ok ⟨r, ma, mc, ea, ec, 0, w.heap.size⟩)) := rob_old (fun w' hb => RecAt.below HR0.out hb) (HP.out.st.bel.trans (EW.out.mono HP.out.st.bel.size))
      have HBW := Lib.hid (HX2.out.below EW.out)
      have HSZ : Hid (w.heap.size ≤ x2.drew.heap.size) := Nat.le_trans HP.out.st.bel.size EW.out.size
      generalize x2.drew = W at *
      have HW0' : Hid (∃ L, W.heap.size = L) := ⟨_, rfl⟩
      obtain ⟨L0, hL0⟩ := HW0'.out
      have HW0 := Lib.hid hL0
      have HYH : Hid (∀ y ∈ ys, y.hi ≤ L0) := fun y hy => by rw [(HP.out.each y hy).2.2, ← hL0]; exact HSZ.out
      rw [hL0] at HSZ
      have HWB := EW
      have EW0 := Lib.hid (Ext.refl W)
      have HY0 := HYW
      have HX0 := HXW
      clear EW HYW HXW hL0 HW0'
      refine wpAnyH_tkS2 (i := 1) 80 (v := ?_) rfl rfl (by kernel_rfl) (by kernel_rfl) (by kernel_rfl) (by rfl) hSw (fun wq hwq => ?_) ?_
      rotate_left
      · (have hx := True.intro; go_simp <;> with_reducible rfl)
      simp only [List.setIfInBounds_toArray, List.set_cons_zero, List.set_cons_succ]
      refine wpAnyH_tkS2 (i := 3) 82 (v := ?_) rfl rfl (by kernel_rfl) (by kernel_rfl) (by kernel_rfl) (by rfl) hSw (fun wq hwq => ?_) ?_
      rotate_left
      · (have hx := True.intro; go_simp <;> with_reducible rfl)
      simp only [List.setIfInBounds_toArray, List.set_cons_zero, List.set_cons_succ]
      refine wpAnyH_tkS2 (i := 4) 83 (v := ?_) rfl rfl (by kernel_rfl) (by kernel_rfl) (by kernel_rfl) (by rfl) hSw (fun wq hwq => ?_) ?_
      rotate_left
      · (have hx := (HBW.out).below hwq; have y0 := hx.c0; have y1 := hx.c1; have y2 := hx.c2; have y3 := hx.c3; have y4 := hx.c4; have y5 := hx.c5; go_simp <;> with_reducible rfl)
      simp only [List.setIfInBounds_toArray, List.set_cons_zero, List.set_cons_succ]
      refine wpAnyH_twoS2 (i := 0) (j := 5) rfl rfl (by kernel_rfl) (by rfl) (by rfl) (fun K hK => ?_) (fun K hK => ?_)
      · go_simp
        rw [HW0.out]
        have HR1 := Lib.hid (rcs_lit W L0 L0 (HW0.out) (by have := EW0.out.size; have := HW0.out; omega))
        have hb := below_one W (.cells #[] 36)
        have HY1 := Lib.hid (HY0.out.below hb)
        have HX1 := Lib.hid (HX0.out.chg (gs := []) (Chg.of_below hb) (by simp))
        have EW1 := Lib.hid (Ext.trans EW0.out hb)
        refine hK.out _ _ (Ext W) (fun _ h => h) (EW1.out) ?_
        clear hK K
        clear hb
        have hSw := EW1.out
        have HLT : Hid (L0 < (W.alloc (.cells #[] 36)).heap.size) := by show _ < _; rw [← HW0.out]; simp
        generalize (W.alloc (.cells #[] 36)) = W1 at *
        refine wpAnyH_twoS2 (i := 2) (j := 5) rfl rfl (by kernel_rfl) (by rfl) (by rfl) (fun K hK => ?_) (fun K hK => ?_)
        · skip
          refine wp_appRec (.tmp 79) (.tmp 80) rfl L0 (some ⟨L0, 0, none⟩) 0 0 [] rfl rfl HR1.out va n vc ys HN.out rfl HY1.out (by omega) (by have := EW1.out.size; have := HW0.out; omega) (fun y hy => by have h1 := HYH.out y hy; have h2 := EW1.out.size; have h3 := HW0.out; have h4 := (HR1.out.lt (g := L0) (by simp [blk])).1; exact ⟨by omega, fun g hg => by simp [blk] at hg; subst hg; right; omega⟩) ?_
          intro va2 vc2 w2 ho chg hat
          rw [List.nil_append] at ho
          rw [Nat.zero_add]
          have HO2 := Lib.hid ho
          have CH2 := Lib.hid chg
          have EW2 : Hid (Ext W w2) := chg.below EW1.out EW1.out.size (fun g hg => by have h1 := (HR1.out.lt hg).1; have h2 := HW0.out; omega)
          have HX2 := Lib.hid (HX1.out.chg chg (fun g hg => .inr (by have h1 := (HR1.out.lt hg).1; have h2 := HSZ.out; omega)))
          clear ho chg hat
          go_simp
          refine hK.out _ _ (Ext W) (fun _ h => h) (EW2.out) ?_
          clear hK K
          have hSw := EW2.out
          refine wpAnyH_oneS2 (i := 5) rfl (by kernel_rfl) (by rfl) (fun K hK => ?_)
          go_simp
          have HY2 := Lib.hid HO2.out.at_
          have HA3 := Lib.hid (rca_box r ma ea mc ec 0 w.heap.size lm le w2.heap.size HLM.out HLE.out (rfl) HX2.out)
          have hb := below_one w2 (.cells #[.int .i64 r.kind, .int .i64 r.epoch, .slice ma lm mc, .int .i64 r.pos, .int .i64 r.last, .slice ea le ec] 36)
          have HY3 := Lib.hid (HY2.out.below hb)
          have HX3 := Lib.hid (HX2.out.chg (gs := []) (Chg.of_below hb) (by simp))
          have EW3 := Lib.hid (Ext.trans EW2.out hb)
          refine hK.out _ _ (Ext W) (fun _ h => h) (EW3.out) ?_
          clear hK K
          clear hb
          have hSw := EW3.out
          have HO3 := Lib.hid (HO2.out.below (below_one w2 (.cells #[.int .i64 r.kind, .int .i64 r.epoch, .slice ma lm mc, .int .i64 r.pos, .int .i64 r.last, .slice ea le ec] 36)))
          refine wpAnyH_oneS2 (i := 6) rfl (by kernel_rfl) (by rfl) (fun K hK => ?_)
          refine wp_appRec (.tmp 81) (.tmp 84) rfl L0 va2 vc2 n ys HN.out rfl HO3.out (some ⟨w2.heap.size, 0, none⟩) 1 1 [⟨r, ma, mc, ea, ec, 0, w.heap.size⟩] rfl rfl HA3.out (by omega) (by have := EW3.out.size; have := HW0.out; omega) (fun y hy => by rw [List.mem_singleton.mp hy]; have h2 := EW3.out.size; have h3 := HW0.out; have h5 := HSZ.out; exact ⟨by show w.heap.size ≤ _; omega, fun g hg => .inr (by have h4 := (HO3.out.lt hg).1; show w.heap.size ≤ g; omega)⟩) ?_
          intro va4 vc4 w4 ho chg hat
          have HQ4 := Lib.hid ho.at_
          have HN4 : Hid (∀ g ∈ blk va4, L0 ≤ g ∧ g < w4.heap.size) := fun g hg => ho.lt hg
          have EW4 : Hid (Ext W w4) := chg.below EW3.out EW3.out.size (fun g hg => by have h1 := (HO3.out.lt hg).1; have h2 := HW0.out; omega)
          clear ho chg hat
          go_simp
          refine hK.out _ _ (Ext W) (fun _ h => h) (EW4.out) ?_
          clear hK K
          have hSw := EW4.out
          refine wpAnyH_tkS2 (i := 7) 14 (v := ?_) rfl rfl (by kernel_rfl) (by kernel_rfl) (by kernel_rfl) (by rfl) hSw (fun wq hwq => ?_) ?_
          rotate_left
          · (have hx := True.intro; go_simp <;> with_reducible rfl)
          simp only [List.setIfInBounds_toArray, List.set_cons_zero, List.set_cons_succ]
          refine wpAnyH_done (by kernel_rfl) ?_ _
          refine NoPanic.normal ?_
          have EXF := Lib.hid (Ext.trans HWB.out EW4.out)
          have HNF : Hid (∀ g ∈ blk va4, x2.heap.size ≤ g ∧ g < w4.heap.size) := fun g hg => ⟨Nat.le_trans HWB.out.size (Nat.le_trans (Nat.le_of_eq HW0.out) (HN4.out g hg).1), (HN4.out g hg).2⟩
          refine hKK _ _ (Met.intro (hJJ _ _ ?_))
          (repeat apply Exists.intro)
          exact ⟨⟨va4, vc4, rfl, HQ4, EXF, HNF⟩, rfl⟩
        · go_simp
          have HA2 := Lib.hid (rca_box r ma ea mc ec 0 w.heap.size lm le W1.heap.size HLM.out HLE.out (rfl) HX1.out)
          have hb := below_one W1 (.cells #[.int .i64 r.kind, .int .i64 r.epoch, .slice ma lm mc, .int .i64 r.pos, .int .i64 r.last, .slice ea le ec] 36)
          have HY2 := Lib.hid (HY1.out.below hb)
          have HX2 := Lib.hid (HX1.out.chg (gs := []) (Chg.of_below hb) (by simp))
          have EW2 := Lib.hid (Ext.trans EW1.out hb)
          refine hK.out _ _ (Ext W) (fun _ h => h) (EW2.out) ?_
          clear hK K
          clear hb
          have hSw := EW2.out
          have HR2 := Lib.hid (HR1.out.below (below_one W1 (.cells #[.int .i64 r.kind, .int .i64 r.epoch, .slice ma lm mc, .int .i64 r.pos, .int .i64 r.last, .slice ea le ec] 36)))
          generalize hW2 : (W1.alloc (.cells #[.int .i64 r.kind, .int .i64 r.epoch, .slice ma lm mc, .int .i64 r.pos, .int .i64 r.last, .slice ea le ec] 36)) = W2 at *
          refine wpAnyH_oneS2 (i := 2) rfl (by kernel_rfl) (by rfl) (fun K hK => ?_)
          refine wp_appRec (.tmp 79) (.tmp 80) rfl L0 (some ⟨L0, 0, none⟩) 0 0 [] rfl rfl HR2.out va n vc ys HN.out rfl HY2.out (by omega) (by have := EW2.out.size; have := HW0.out; omega) (fun y hy => by have h1 := HYH.out y hy; have h2 := EW2.out.size; have h3 := HW0.out; have h4 := (HR2.out.lt (g := L0) (by simp [blk])).1; exact ⟨by omega, fun g hg => by simp [blk] at hg; subst hg; right; omega⟩) ?_
          intro va3 vc3 w3 ho chg hat
          rw [List.nil_append] at ho
          rw [Nat.zero_add]
          have HO3 := Lib.hid ho
          have CH3 := Lib.hid chg
          have EW3 : Hid (Ext W w3) := chg.below EW2.out EW2.out.size (fun g hg => by have h1 := (HR2.out.lt hg).1; have h2 := HW0.out; omega)
          have HX3 := Lib.hid (HX2.out.chg chg (fun g hg => .inr (by have h1 := (HR2.out.lt hg).1; have h2 := HSZ.out; omega)))
          clear ho chg hat
          go_simp
          refine hK.out _ _ (Ext W) (fun _ h => h) (EW3.out) ?_
          clear hK K
          have hSw := EW3.out
          have HA3 := Lib.hid (HA2.out.chg CH3.out (by have := HLT.out; simp [blk]; omega) (fun x hx g hg => by rw [List.mem_singleton.mp hx]; have h1 := HSZ.out; simp [blk] at hg; subst hg; right; exact h1))
          refine wpAnyH_oneS2 (i := 6) rfl (by kernel_rfl) (by rfl) (fun K hK => ?_)
          refine wp_appRec (.tmp 81) (.tmp 84) rfl L0 va3 vc3 n ys HN.out rfl HO3.out (some ⟨W1.heap.size, 0, none⟩) 1 1 [⟨r, ma, mc, ea, ec, 0, w.heap.size⟩] rfl rfl HA3.out (by omega) (by have := EW3.out.size; have := HW0.out; omega) (fun y hy => by rw [List.mem_singleton.mp hy]; have h2 := EW3.out.size; have h3 := HW0.out; have h5 := HSZ.out; exact ⟨by show w.heap.size ≤ _; omega, fun g hg => .inr (by have h4 := (HO3.out.lt hg).1; show w.heap.size ≤ g; omega)⟩) ?_
          intro va4 vc4 w4 ho chg hat
          have HQ4 := Lib.hid ho.at_
          have HN4 : Hid (∀ g ∈ blk va4, L0 ≤ g ∧ g < w4.heap.size) := fun g hg => ho.lt hg
          have EW4 : Hid (Ext W w4) := chg.below EW3.out EW3.out.size (fun g hg => by have h1 := (HO3.out.lt hg).1; have h2 := HW0.out; omega)
          clear ho chg hat
          go_simp
          refine hK.out _ _ (Ext W) (fun _ h => h) (EW4.out) ?_
          clear hK K
          have hSw := EW4.out
          refine wpAnyH_tkS2 (i := 7) 14 (v := ?_) rfl rfl (by kernel_rfl) (by kernel_rfl) (by kernel_rfl) (by rfl) hSw (fun wq hwq => ?_) ?_
          rotate_left
          · (have hx := True.intro; go_simp <;> with_reducible rfl)
          simp only [List.setIfInBounds_toArray, List.set_cons_zero, List.set_cons_succ]
          refine wpAnyH_done (by kernel_rfl) ?_ _
          refine NoPanic.normal ?_
          have EXF := Lib.hid (Ext.trans HWB.out EW4.out)
          have HNF : Hid (∀ g ∈ blk va4, x2.heap.size ≤ g ∧ g < w4.heap.size) := fun g hg => ⟨Nat.le_trans HWB.out.size (Nat.le_trans (Nat.le_of_eq HW0.out) (HN4.out g hg).1), (HN4.out g hg).2⟩
          refine hKK _ _ (Met.intro (hJJ _ _ ?_))
          (repeat apply Exists.intro)
          exact ⟨⟨va4, vc4, rfl, HQ4, EXF, HNF⟩, rfl⟩
      · go_simp
        rw [HW0.out]
        have HA1 := Lib.hid (rca_box r ma ea mc ec 0 w.heap.size lm le L0 HLM.out HLE.out (HW0.out) HX0.out)
        have hb := below_one W (.cells #[.int .i64 r.kind, .int .i64 r.epoch, .slice ma lm mc, .int .i64 r.pos, .int .i64 r.last, .slice ea le ec] 36)
        have HY1 := Lib.hid (HY0.out.below hb)
        have HX1 := Lib.hid (HX0.out.chg (gs := []) (Chg.of_below hb) (by simp))
        have EW1 := Lib.hid (Ext.trans EW0.out hb)
        refine hK.out _ _ (Ext W) (fun _ h => h) (EW1.out) ?_
        clear hK K
        clear hb
        have hSw := EW1.out
        have HLT : Hid (L0 < (W.alloc (.cells #[.int .i64 r.kind, .int .i64 r.epoch, .slice ma lm mc, .int .i64 r.pos, .int .i64 r.last, .slice ea le ec] 36)).heap.size) := by show _ < _; rw [← HW0.out]; simp
        generalize (W.alloc (.cells #[.int .i64 r.kind, .int .i64 r.epoch, .slice ma lm mc, .int .i64 r.pos, .int .i64 r.last, .slice ea le ec] 36)) = W1 at *
        refine wpAnyH_oneS2 (i := 0) rfl (by kernel_rfl) (by rfl) (fun K hK => ?_)
        go_simp
        have HR2 := Lib.hid (rcs_lit W1 L0 W1.heap.size (rfl) (by have := EW1.out.size; have := HW0.out; omega))
        have hb := below_one W1 (.cells #[] 36)
        have HY2 := Lib.hid (HY1.out.below hb)
        have HX2 := Lib.hid (HX1.out.chg (gs := []) (Chg.of_below hb) (by simp))
        have EW2 := Lib.hid (Ext.trans EW1.out hb)
        refine hK.out _ _ (Ext W) (fun _ h => h) (EW2.out) ?_
        clear hK K
        clear hb
        have hSw := EW2.out
        have HA2 := Lib.hid (HA1.out.below (below_one W1 (.cells #[] 36)))
        generalize hW2 : (W1.alloc (.cells #[] 36)) = W2 at *
        refine wpAnyH_oneS2 (i := 2) rfl (by kernel_rfl) (by rfl) (fun K hK => ?_)
        refine wp_appRec (.tmp 79) (.tmp 80) rfl L0 (some ⟨W1.heap.size, 0, none⟩) 0 0 [] rfl rfl HR2.out va n vc ys HN.out rfl HY2.out (by omega) (by have := EW2.out.size; have := HW0.out; omega) (fun y hy => by have h1 := HYH.out y hy; have h2 := EW2.out.size; have h3 := HW0.out; have h4 := (HR2.out.lt (g := W1.heap.size) (by simp [blk])).1; exact ⟨by omega, fun g hg => by simp [blk] at hg; subst hg; right; omega⟩) ?_
        intro va3 vc3 w3 ho chg hat
        rw [List.nil_append] at ho
        rw [Nat.zero_add]
        have HO3 := Lib.hid ho
        have CH3 := Lib.hid chg
        have EW3 : Hid (Ext W w3) := chg.below EW2.out EW2.out.size (fun g hg => by have h1 := (HR2.out.lt hg).1; have h2 := HW0.out; omega)
        have HX3 := Lib.hid (HX2.out.chg chg (fun g hg => .inr (by have h1 := (HR2.out.lt hg).1; have h2 := HSZ.out; omega)))
        clear ho chg hat
        go_simp
        refine hK.out _ _ (Ext W) (fun _ h => h) (EW3.out) ?_
        clear hK K
        have hSw := EW3.out
        have HA3 := Lib.hid (HA2.out.chg CH3.out (by have := HLT.out; simp [blk]; omega) (fun x hx g hg => by rw [List.mem_singleton.mp hx]; have h1 := HSZ.out; have h2 := HLT.out; simp [blk] at hg; subst hg; right; show w.heap.size ≤ _; omega))
        refine wpAnyH_oneS2 (i := 6) rfl (by kernel_rfl) (by rfl) (fun K hK => ?_)
        refine wp_appRec (.tmp 81) (.tmp 84) rfl L0 va3 vc3 n ys HN.out rfl HO3.out (some ⟨L0, 0, none⟩) 1 1 [⟨r, ma, mc, ea, ec, 0, w.heap.size⟩] rfl rfl HA3.out (by omega) (by have := EW3.out.size; have := HW0.out; omega) (fun y hy => by rw [List.mem_singleton.mp hy]; have h2 := EW3.out.size; have h3 := HW0.out; have h5 := HSZ.out; exact ⟨by show w.heap.size ≤ _; omega, fun g hg => .inr (by have h4 := (HO3.out.lt hg).1; show w.heap.size ≤ g; omega)⟩) ?_
        intro va4 vc4 w4 ho chg hat
        have HQ4 := Lib.hid ho.at_
        have HN4 : Hid (∀ g ∈ blk va4, L0 ≤ g ∧ g < w4.heap.size) := fun g hg => ho.lt hg
        have EW4 : Hid (Ext W w4) := chg.below EW3.out EW3.out.size (fun g hg => by have h1 := (HO3.out.lt hg).1; have h2 := HW0.out; omega)
        clear ho chg hat
        go_simp
        refine hK.out _ _ (Ext W) (fun _ h => h) (EW4.out) ?_
        clear hK K
        have hSw := EW4.out
        refine wpAnyH_tkS2 (i := 7) 14 (v := ?_) rfl rfl (by kernel_rfl) (by kernel_rfl) (by kernel_rfl) (by rfl) hSw (fun wq hwq => ?_) ?_
        rotate_left
        · (have hx := True.intro; go_simp <;> with_reducible rfl)
        simp only [List.setIfInBounds_toArray, List.set_cons_zero, List.set_cons_succ]
        refine wpAnyH_done (by kernel_rfl) ?_ _
        refine NoPanic.normal ?_
        have EXF := Lib.hid (Ext.trans HWB.out EW4.out)
        have HNF : Hid (∀ g ∈ blk va4, x2.heap.size ≤ g ∧ g < w4.heap.size) := fun g hg => ⟨Nat.le_trans HWB.out.size (Nat.le_trans (Nat.le_of_eq HW0.out) (HN4.out g hg).1), (HN4.out g hg).2⟩
        refine hKK _ _ (Met.intro (hJJ _ _ ?_))
        (repeat apply Exists.intro)
        exact ⟨⟨va4, vc4, rfl, HQ4, EXF, HNF⟩, rfl⟩
    case rest =>
    obtain ⟨vw, vwc, rfl, HW, HEX, HVN⟩ := hcut
    have HP2 := Lib.hid (HP.out.below HEX.out)
    have HX3 := Lib.hid (HX2.out.below HEX.out)
    have HVM : Hid (∀ g ∈ blk vw, g ∉ bkM RB R a ga ∧ g < wc.heap.size) := fun g hg => ⟨fun e => by have h1 := (HP.out.st.bk.mLt e).2; have h2 := (HVN.out g hg).1; omega, (HVN.out g hg).2⟩
    clear c0 c1 c2 c3 c4 c5 c6 c7
    clear HX2 HP HEX HVN
    have c0 := HX3.out.c0
    have c1 := HX3.out.c1
    have c2 := HX3.out.c2
    have c3 := HX3.out.c3
    have c4 := HX3.out.c4
    have c5 := HX3.out.c5
    have c6 := HX3.out.d0
    have c7 := HX3.out.d1
    go_wp2_with fail
    refine (lawFrame_any _ _ _ _ _ _ r _ (HR0.out.below HP2.out.st.bel) HLM.out HLE.out HMD.out).mono ?_
    rintro e w5 ⟨g5, q5, rfl, _, hb5⟩
    obtain ⟨L, hL⟩ : ∃ L, (frm (encR r)).length = L := ⟨_, rfl⟩
    rw [hL]
    have HLL := Lib.hid hL
    have HP5 := Lib.hid (HP2.out.below hb5)
    have HX5 := Lib.hid (HX3.out.below hb5)
    have HW5 := Lib.hid (HW.out.below hb5)
    have HVM5 : Hid (∀ g ∈ blk vw, g ∉ bkM RB R a ga ∧ g < w5.heap.size) := fun g hg => ⟨(HVM.out g hg).1, Nat.lt_of_lt_of_le (HVM.out g hg).2 hb5.size⟩
    clear c0 c1 c2 c3 c4 c5 c6 c7
    clear hL hb5 HX3 HP2 HW HVM
    have c0 := HX5.out.c0
    have c1 := HX5.out.c1
    have c2 := HX5.out.c2
    have c3 := HX5.out.c3
    have c4 := HX5.out.c4
    have c5 := HX5.out.c5
    have c6 := HX5.out.d0
    have c7 := HX5.out.d1
    go_upto_region 25 with fail
    go_cut [102] (fun s wx => s = .bool (decide (0 < na ∧ na ≤ (n : Int))) ∧ wx = w5)
    case first =>
      by_cases h1 : 0 < na
      · have u1 : decide (0 < na) = true := by simp; omega
        by_cases h2 : na ≤ (n : Int)
        · have u2 : decide (na ≤ (n : Int)) = true := by simp; omega
          have HU : Hid (decide (0 < na ∧ na ≤ (n : Int)) = true) := decide_eq_true ⟨h1, h2⟩
          go_wp2_with fail
          go_meet
          exact ⟨by rw [HU.out], rfl⟩
        · have u2 : decide (na ≤ (n : Int)) = false := by simp; omega
          have HU : Hid (decide (0 < na ∧ na ≤ (n : Int)) = false) := decide_eq_false (fun h => h2 h.2)
          go_wp2_with fail
          go_meet
          exact ⟨by rw [HU.out], rfl⟩
      · have u1 : decide (0 < na) = false := by simp; omega
        have HU : Hid (decide (0 < na ∧ na ≤ (n : Int)) = false) := decide_eq_false (fun h => h1 h.1)
        go_wp2_with fail
        go_meet
        exact ⟨by rw [HU.out], rfl⟩
    case rest =>
    obtain ⟨rfl, hw⟩ := hcut
    obtain rfl := hw.symm
    clear hw
    go_upto_if 102 with fail
    go_cut [14] (fun s wx => ∃ (q : Nat) (vq : Option Addr) (vqc : Nat), s = .slice vq (n - q) vqc ∧ q ≤ n ∧ blk vq = blk va ∧ Hid (RcA w5 vq vqc (ys.drop q)) ∧ wx = w5)
    case first =>
      by_cases h : 0 < na ∧ na ≤ (n : Int)
      · have u1 : decide (0 < na ∧ na ≤ (n : Int)) = true := decide_eq_true h
        obtain ⟨m, hm⟩ : ∃ m : Nat, na = (m : Int) := ⟨na.toNat, by omega⟩
        subst hm
        have hmn : m ≤ n := by omega
        have hsl := slice_fromR va n vc m hmn w5
        have hsl' := slice_fromR' va n vc m hmn w5
        have HFM := Lib.hid (HP5.out.list.from m (by rw [HN.out]; exact hmn))
        have HBF := Lib.hid (blk_fromR va vc m)
        rw [u1]
        go_wp2_with fail
        go_meet
        first
          | exact ⟨m, fromR va vc m, vc - m, rfl, hmn, HBF.out, HFM, rfl⟩
          | ((repeat apply Exists.intro); exact ⟨⟨m, fromR va vc m, vc - m, rfl, hmn, HBF.out, HFM, rfl⟩, rfl⟩)
      · have u1 : decide (0 < na ∧ na ≤ (n : Int)) = false := decide_eq_false h
        have HFM : Hid (RcA w5 va vc (ys.drop 0)) := HP5.out.list
        rw [u1]
        go_wp2_with fail
        go_meet
        first
          | exact ⟨0, va, vc, rfl, Nat.zero_le _, rfl, HFM, rfl⟩
          | ((repeat apply Exists.intro); exact ⟨⟨0, va, vc, rfl, Nat.zero_le _, rfl, HFM, rfl⟩, rfl⟩)
    case rest =>
    obtain ⟨q, vq, vqc, rfl, hqn, hbq, HWQ, hw⟩ := hcut
    obtain rfl := hw.symm
    clear hw
    obtain ⟨l, hl⟩ : ∃ l, n - q = l := ⟨_, rfl⟩
    rw [hl]
    have HZS : Hid (∀ z ∈ ys.drop q, GoodX z ∧ z.lo = 0 ∧ z.hi = w.heap.size) := fun z hz => HP5.out.each z (List.mem_of_mem_drop hz)
    have HZL : Hid ((ys.drop q).length = l) := by show _ = _; rw [List.length_drop, HN.out]; exact hl
    have hln : l ≤ n := by omega
    have HVQ : Hid (∀ g ∈ blk vq, g ∉ bkM RB R a ga ∧ g < w5.heap.size) := fun g hg => HP5.out.ap g (by rw [← hbq]; exact hg)
    clear hl hqn hbq
    generalize ys.drop q = zs at *
    obtain ⟨Z, hZ⟩ : ∃ Z, (frms (zs.map encX)).length = Z := ⟨_, rfl⟩
    have HZZ := Lib.hid hZ
    have hzb : Z ≤ 70200 := by have h1 := good_frms zs (fun z hz => (HZS.out z hz).1); rw [hZ, HZL.out] at h1; omega
    clear hZ
    go_wp2_with fail
    refine (lawAll_any _ _ l zs _ HZL.out HWQ.out (fun z hz => (HZS.out z hz).1.small.med) (by rw [HZZ.out]; omega)).mono ?_
    rintro e w6 ⟨g6, q6, rfl, _, hb6⟩
    rw [HZZ.out]
    have HP6 := Lib.hid (HP5.out.below hb6)
    have HX6 := Lib.hid (HX5.out.below hb6)
    have HW6 := Lib.hid (HWQ.out.below hb6)
    have HVM6 : Hid (∀ g ∈ blk vq, g ∉ bkM RB R a ga ∧ g < w6.heap.size) := fun g hg => ⟨(HVQ.out g hg).1, Nat.lt_of_lt_of_le (HVQ.out g hg).2 hb6.size⟩
    clear c0 c1 c2 c3 c4 c5 c6 c7
    clear hb6 HP5 HX5 HWQ HVQ
    have c0 := HX6.out.c0
    have c1 := HX6.out.c1
    have c2 := HX6.out.c2
    have c3 := HX6.out.c3
    have c4 := HX6.out.c4
    have c5 := HX6.out.c5
    have c6 := HX6.out.d0
    have c7 := HX6.out.d1
    cases d with
    | true =>
      have KW := Lib.hid (wrt_off9 s (frms (zs.map encX)) true HP6.out.down)
      go_wp2_with fail
      refine (bkRenew_any w.heap.size RB R a ga s cs F vq vqc l zs _ HP6.out.st.bk HZL.out HW6.out (fun z hz => (HZS.out z hz).1) (by omega)).mono ?_
      rw [KW.out]
      rintro e w7 ⟨rfl, a7, ga7, F7, hk7, hm7⟩
      have hk7' : Bk w7 w.heap.size RB R a7 ga7 s cs F7 := hk7
      have HX7 := Lib.hid (HX6.out.chg hm7.chg HBO.out)
      have hkl := keepL (fun g hg => (HP6.out.st.bk.mLt hg).1) HW6.out (fun z hz => (HZS.out z hz).2.2) HVM6.out hm7
      have HW7 := Lib.hid hkl.1
      have HVM7 := Lib.hid hkl.2
      clear c0 c1 c2 c3 c4 c5 c6 c7
      clear hk7 hkl
      have HP7 := Lib.hid (HP6.out.same hk7' hm7)
      clear hk7' hm7
      have c0 := HX7.out.c0
      have c1 := HX7.out.c1
      have c2 := HX7.out.c2
      have c3 := HX7.out.c3
      have c4 := HX7.out.c4
      have c5 := HX7.out.c5
      have c6 := HX7.out.d0
      have c7 := HX7.out.d1
      go_wp2_with fail
      go_meet
      first
        | exact ⟨n, vc, t, RB, va, a7, ga7, s, cs, F7, ys, x, true, by omega, ht, rfl, rfl, rfl, rfl, rfl, HN, HP7⟩
        | ((repeat apply Exists.intro); exact ⟨⟨n, vc, t, RB, va, a7, ga7, s, cs, F7, ys, x, true, by omega, ht, rfl, rfl, rfl, rfl, rfl, HN, HP7⟩, rfl⟩)
    | false =>
      obtain ⟨hps, hcs, htn, hlim⟩ := HP6.out.up rfl
      have HPS := Lib.hid hps
      have HOF := HP6.out.down
      have HRM := HP6.out.room
      clear hps hcs
      by_cases hf : N < Z
      · have KW : Hid (wrt s (frms (zs.map encX)) true = (5, s)) := wrt_full9 s _ _ HOF (by rw [HRM, HZZ.out]; simp; omega)
        have d1 : decide ((N : Int) < (Z : Int)) = true := by simp; omega
        have d2 : decide (N < Z) = true := by simp; omega
        go_wp2_with fail
        refine (bkRenew_any w.heap.size RB R a ga s cs F vq vqc l zs _ HP6.out.st.bk HZL.out HW6.out (fun z hz => (HZS.out z hz).1) (by omega)).mono ?_
        rw [KW.out]
        rintro e w7 ⟨rfl, a7, ga7, F7, hk7, hm7⟩
        have hk7' : Bk w7 w.heap.size RB R a7 ga7 s cs F7 := hk7
        have HX7 := Lib.hid (HX6.out.chg hm7.chg HBO.out)
        have hkl := keepL (fun g hg => (HP6.out.st.bk.mLt hg).1) HW6.out (fun z hz => (HZS.out z hz).2.2) HVM6.out hm7
        have HW7 := Lib.hid hkl.1
        have HVM7 := Lib.hid hkl.2
        clear c0 c1 c2 c3 c4 c5 c6 c7
        clear hk7 hkl
        have HP7 := Lib.hid (HP6.out.same hk7' hm7)
        clear hk7' hm7
        have c0 := HX7.out.c0
        have c1 := HX7.out.c1
        have c2 := HX7.out.c2
        have c3 := HX7.out.c3
        have c4 := HX7.out.c4
        have c5 := HX7.out.c5
        have c6 := HX7.out.d0
        have c7 := HX7.out.d1
        go_wp2_with fail
        refine (lawAll_any _ _ l zs _ HZL.out HW7.out (fun z hz => (HZS.out z hz).1.small.med) (by rw [HZZ.out]; omega)).mono ?_
        rintro e w8 ⟨g8, q8, rfl, _, hb8⟩
        rw [HZZ.out]
        clear c0 c1 c2 c3 c4 c5 c6 c7
        have HP8 := Lib.hid (HP7.out.below hb8)
        clear hb8 HP7
        go_wp2_with fail
        go_meet
        first
          | exact ⟨n, vc, t, RB, va, a7, ga7, s, cs, F7, ys, x, false, by omega, ht, rfl, rfl, rfl, rfl, rfl, HN, HP8⟩
          | ((repeat apply Exists.intro); exact ⟨⟨n, vc, t, RB, va, a7, ga7, s, cs, F7, ys, x, false, by omega, ht, rfl, rfl, rfl, rfl, rfl, HN, HP8⟩, rfl⟩)
      have hr : ¬ s.room < (if (true : Bool) = true then 0 else s.ps.length) + (frms (zs.map encX)).length := by rw [HRM, HZZ.out]; simp; omega
      have d1 : decide ((N : Int) < (Z : Int)) = false := by simp; omega
      have d2 : decide (N < Z) = false := by simp; omega
      cases x with
      | false =>
        have KW : Hid (wrt s (frms (zs.map encX)) true = (0, { s with ps := frms (zs.map encX) })) := by
          show _ = _
          rw [wrt_ok9 s _ _ HOF hr htn]
          simp
        go_wp2_with fail
        refine (bkRenew_any w.heap.size RB R a ga s cs F vq vqc l zs _ HP6.out.st.bk HZL.out HW6.out (fun z hz => (HZS.out z hz).1) (by omega)).mono ?_
        rw [KW.out]
        rintro e w7 ⟨rfl, a7, ga7, F7, hk7, hm7⟩
        have hk7' : Bk w7 w.heap.size RB R a7 ga7 { s with ps := frms (zs.map encX) } (zs.map encX) F7 := hk7
        have HX7 := Lib.hid (HX6.out.chg hm7.chg HBO.out)
        have hkl := keepL (fun g hg => (HP6.out.st.bk.mLt hg).1) HW6.out (fun z hz => (HZS.out z hz).2.2) HVM6.out hm7
        have HW7 := Lib.hid hkl.1
        have HVM7 := Lib.hid hkl.2
        clear c0 c1 c2 c3 c4 c5 c6 c7
        clear hk7 hkl
        have HP7 := Lib.hid (HP6.out.done (t := t) hk7' hm7 HW7.out HZS.out HVM7.out rfl HOF htn rfl rfl (by rw [HZL.out]; omega))
        clear hk7' hm7
        have c0 := HX7.out.c0
        have c1 := HX7.out.c1
        have c2 := HX7.out.c2
        have c3 := HX7.out.c3
        have c4 := HX7.out.c4
        have c5 := HX7.out.c5
        have c6 := HX7.out.d0
        have c7 := HX7.out.d1
        go_wp2_with fail
        refine (lawAll_any _ _ l zs _ HZL.out HW7.out (fun z hz => (HZS.out z hz).1.small.med) (by rw [HZZ.out]; omega)).mono ?_
        rintro e w8 ⟨g8, q8, rfl, _, hb8⟩
        rw [HZZ.out]
        clear c0 c1 c2 c3 c4 c5 c6 c7
        have HP8 := Lib.hid (HP7.out.below hb8)
        clear hb8 HP7
        go_wp2_with fail
        go_meet
        first
          | exact ⟨l, vqc, t, RB, vq, a7, ga7, _, _, F7, zs, false, false, by omega, ht, rfl, rfl, rfl, rfl, rfl, HZL, HP8⟩
          | ((repeat apply Exists.intro); exact ⟨⟨l, vqc, t, RB, vq, a7, ga7, _, _, F7, zs, false, false, by omega, ht, rfl, rfl, rfl, rfl, rfl, HZL, HP8⟩, rfl⟩)
      | true =>
        have hlm' := hlim rfl
        by_cases hlt' : Z ≤ t
        · have e1 : decide ((Z : Int) ≤ (t : Int)) = true := by simp; omega
          have e2 : decide (Z ≤ t) = true := by simp; omega
          have KW : Hid (wrt s (frms (zs.map encX)) true = (6, { s with off := true, ps := frms (zs.map encX) })) := by
            show _ = _
            rw [wr_torn s _ true HOF htn hr, if_pos (by rw [HZZ.out, hlm']; exact hlt')]
            simp
          go_wp2_with fail
          refine (bkRenew_any w.heap.size RB R a ga s cs F vq vqc l zs _ HP6.out.st.bk HZL.out HW6.out (fun z hz => (HZS.out z hz).1) (by omega)).mono ?_
          rw [KW.out]
          rintro e w7 ⟨rfl, a7, ga7, F7, hk7, hm7⟩
          have hk7' : Bk w7 w.heap.size RB R a7 ga7 { s with off := true, ps := frms (zs.map encX) } cs F7 := hk7
          have HX7 := Lib.hid (HX6.out.chg hm7.chg HBO.out)
          have hkl := keepL (fun g hg => (HP6.out.st.bk.mLt hg).1) HW6.out (fun z hz => (HZS.out z hz).2.2) HVM6.out hm7
          have HW7 := Lib.hid hkl.1
          have HVM7 := Lib.hid hkl.2
          clear c0 c1 c2 c3 c4 c5 c6 c7
          clear hk7 hkl
          have HP7 := Lib.hid (HP6.out.fell (t := t) [] hk7' hm7 HW7.out HZS.out HVM7.out rfl rfl (by rw [List.append_nil]) isF_nil)
          clear hk7' hm7
          have c0 := HX7.out.c0
          have c1 := HX7.out.c1
          have c2 := HX7.out.c2
          have c3 := HX7.out.c3
          have c4 := HX7.out.c4
          have c5 := HX7.out.c5
          have c6 := HX7.out.d0
          have c7 := HX7.out.d1
          go_wp2_with fail
          refine (lawAll_any _ _ l zs _ HZL.out HW7.out (fun z hz => (HZS.out z hz).1.small.med) (by rw [HZZ.out]; omega)).mono ?_
          rintro e w8 ⟨g8, q8, rfl, _, hb8⟩
          rw [HZZ.out]
          clear c0 c1 c2 c3 c4 c5 c6 c7
          have HP8 := Lib.hid (HP7.out.below hb8)
          clear hb8 HP7
          go_wp2_with fail
          go_meet
          first
            | exact ⟨l, vqc, t, RB, vq, a7, ga7, _, _, F7, zs, false, true, by omega, ht, rfl, rfl, rfl, rfl, rfl, HZL, HP8⟩
            | ((repeat apply Exists.intro); exact ⟨⟨l, vqc, t, RB, vq, a7, ga7, _, _, F7, zs, false, true, by omega, ht, rfl, rfl, rfl, rfl, rfl, HZL, HP8⟩, rfl⟩)
        · have e1 : decide ((Z : Int) ≤ (t : Int)) = false := by simp; omega
          have e2 : decide (Z ≤ t) = false := by simp; omega
          have KW : Hid (wrt s (frms (zs.map encX)) true = (6, { s with off := true })) := by
            show _ = _
            rw [wr_torn s _ true HOF htn hr, if_neg (by rw [HZZ.out, hlm']; exact hlt')]
            simp
          go_wp2_with fail
          refine (bkRenew_any w.heap.size RB R a ga s cs F vq vqc l zs _ HP6.out.st.bk HZL.out HW6.out (fun z hz => (HZS.out z hz).1) (by omega)).mono ?_
          rw [KW.out]
          rintro e w7 ⟨rfl, a7, ga7, F7, hk7, hm7⟩
          have hk7' : Bk w7 w.heap.size RB R a7 ga7 { s with off := true } cs F7 := hk7
          have HX7 := Lib.hid (HX6.out.chg hm7.chg HBO.out)
          have hkl := keepL (fun g hg => (HP6.out.st.bk.mLt hg).1) HW6.out (fun z hz => (HZS.out z hz).2.2) HVM6.out hm7
          have HW7 := Lib.hid hkl.1
          have HVM7 := Lib.hid hkl.2
          clear c0 c1 c2 c3 c4 c5 c6 c7
          clear hk7 hkl
          have HL7 := Lib.hid (keepL (fun g hg => (HP6.out.st.bk.mLt hg).1) HP6.out.list (fun y hy => (HP6.out.each y hy).2.2) HP6.out.ap hm7)
          have HP7 := Lib.hid (HP6.out.fell (t := t) [] hk7' hm7 HL7.out.1 HP6.out.each HL7.out.2 rfl rfl (by rw [List.append_nil, ← HPS.out]) isF_nil)
          clear hk7' hm7
          have c0 := HX7.out.c0
          have c1 := HX7.out.c1
          have c2 := HX7.out.c2
          have c3 := HX7.out.c3
          have c4 := HX7.out.c4
          have c5 := HX7.out.c5
          have c6 := HX7.out.d0
          have c7 := HX7.out.d1
          go_wp2_with fail
          refine (lawAll_any _ _ l zs _ HZL.out HW7.out (fun z hz => (HZS.out z hz).1.small.med) (by rw [HZZ.out]; omega)).mono ?_
          rintro e w8 ⟨g8, q8, rfl, _, hb8⟩
          rw [HZZ.out]
          clear c0 c1 c2 c3 c4 c5 c6 c7
          have HP8 := Lib.hid (HP7.out.below hb8)
          clear hb8 HP7
          go_wp2_with fail
          go_meet
          first
            | exact ⟨n, vc, t, RB, va, a7, ga7, _, _, F7, ys, false, true, by omega, ht, rfl, rfl, rfl, rfl, rfl, HN, HP8⟩
            | ((repeat apply Exists.intro); exact ⟨⟨n, vc, t, RB, va, a7, ga7, _, _, F7, ys, false, true, by omega, ht, rfl, rfl, rfl, rfl, rfl, HN, HP8⟩, rfl⟩)
  case rest =>
  clear HX2 HP HBO HN
  obtain ⟨n', vc, t, RB, va, a, ga, s, cs, F, ys, x, d, hn', ht, rfl, rfl, rfl, rfl, rfl, HN, HP⟩ := hcut
  cases d with
  | true =>
    go_wp2_with fail
    go_roundw
    case rel => exact ⟨k + 1, n', vc, t, RB, va, a, ga, s, cs, F, ys, x, true, by omega, by omega, hn', ht, rfl, rfl, rfl, rfl, rfl, by go_num, HN, HP⟩
    case measure => simp [intOf]; omega
  | false =>
    obtain ⟨hps, hcs, _, _⟩ := HP.out.up rfl
    subst hcs
    have HGX : Hid (∀ y ∈ ys, GoodX y) := fun y hy => (HP.out.each y hy).1
    have HZL : Hid ((ys.map encX).length = n') := by show _ = _; rw [List.length_map]; exact HN.out
    clear hps
    go_wp2_with fail
    refine (bkRecords_any w.heap.size RB R a ga _ (ys.map encX) F _ HP.out.st.bk (by rw [HZL.out]; omega) (fun c hc => by obtain ⟨z, hz, rfl⟩ := List.mem_map.mp hc; exact ⟨(HGX.out z hz).enc.1, by have := (HGX.out z hz).len; omega⟩)).mono ?_
    rintro e w5 ⟨vg, vgc, gs, rfl, hgs, hrc, _, hb5⟩
    rw [good_decs ys HGX.out] at hgs
    rw [HZL.out]
    have HGS := Lib.hid hgs
    have HRC := Lib.hid hrc.at_
    have HP5 := Lib.hid (HP.out.below hb5)
    clear hgs hrc hb5 HP
    go_wp2_with fail
    refine (sameRecs_any _ _ _ _ n' gs ys _ (by rw [xs_len HGS.out, List.length_map]; exact HN.out) HRC.out HN.out HP5.out.list (xs_mem HGS.out (P := Small) (fun q hq => by obtain ⟨z, hz, rfl⟩ := List.mem_map.mp hq; exact (HGX.out z hz).small)) (fun y hy => (HGX.out y hy).small)).mono ?_
    rw [encX_map gs, HGS.out, ← encX_map, decide_eq_true rfl]
    rintro e w6 ⟨rfl, hb6⟩
    have HP6 := Lib.hid (HP5.out.below hb6)
    clear hb6 HP5
    go_wp2_with fail
    go_roundw
    case rel => exact ⟨k + 1, n', vc, t, RB, va, a, ga, s, _, F, ys, x, false, by omega, by omega, hn', ht, rfl, rfl, rfl, rfl, rfl, by go_num, HN, HP6⟩
    case measure => simp [intOf]; omega
end Go.Proofs.Ytfcjnhcolkpppaa
