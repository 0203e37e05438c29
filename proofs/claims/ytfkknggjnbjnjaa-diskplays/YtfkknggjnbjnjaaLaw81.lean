/-
  The walk of the law DiskPlays.
-/
import Derived.Test.YtfkknggjnbjnjaaPlay
import Derived.Deep.DeepCutAuto
import Derived.Deep.CutBlock
namespace Go.Proofs.Ytfkknggjnbjnjaa
open Go.RowKit

theorem below_lit (y : World) : Below y.heap.size y (y.alloc (.cells #[] 5)).drew := ((below_one y _).trans ((below_drew _).mono (by simp)))

set_option maxRecDepth 100000 in
set_option maxHeartbeats 4000000 in
theorem diskPlays_walk (a0 : Int) (a1 : Option Addr) (len1 cap1 : Nat) (m1 : List Ac) (w : World) (_ : (Lit.int .i64 a0).wf = true) (w1 : m1.length = len1 ∧ ActsAt w a1 cap1 m1) :
    Calls Try.prog 3 #[.int .i64 a0, .slice a1 len1 cap1] w fun e w' => e = .returned (.bool true) ∧ Below w.heap.size w w' := by
  have hm1 : len1 ≤ maxLen := by have := w1.1; have := w1.2.le; have := w1.2.max; omega
  unfold maxLen at hm1
  have HL := Lib.hid w1.1
  have HG := Lib.hid w1.2
  have hrm : roomOf a0 ≤ 16777216 := by unfold roomOf; split; omega; split; omega; omega
  clear w1
  go_enter Try.func3, Try.ntmps3
  go_wp2_with fail
  refine (disk_new a0 _).mono ?_
  rintro e x1 ⟨R, rfl, -, hd1, hb1⟩
  generalize hM : roomOf a0 = M at *
  have H1 : Hid (DW w x1 R none ⟨[], M, false, false, 0⟩) := ⟨hd1, hb1⟩
  clear hd1 hb1
  go_upto_if 22 with fail
  go_cut [6] (fun s wx => s = .int .i64 (max a0 0) ∧ wx = x1)
  case first =>
    by_cases hn : a0 < 0
    · have t : decide (a0 < 0) = true := by simp; omega
      have HNN : Hid (max a0 0 = 0) := by show _ = _; omega
      go_wp2_with fail
      go_meet
      exact ⟨by rw [HNN.out], rfl⟩
    · have t : decide (a0 < 0) = false := by simp; omega
      have HNN : Hid (max a0 0 = a0) := by show _ = _; omega
      go_wp2_with fail
      go_meet
      exact ⟨by rw [HNN.out], rfl⟩
  case rest =>
  obtain ⟨rfl, hw⟩ := hcut
  obtain rfl := hw.symm
  clear hw
  go_upto_if 24 with fail
  go_cut [6] (fun s wx => s = .int .i64 (M : Int) ∧ wx = x1)
  case first =>
    generalize hq : max a0 0 = q at *
    by_cases hn : 16777216 < q
    · have t : decide ((16777216 : Int) < q) = true := by simp; omega
      have HNN : Hid (M = 16777216) := by
        show _ = _
        rw [← hM]; unfold roomOf; rw [if_neg (by omega), if_pos (by omega)]
      clear hM hq
      go_wp2_with fail
      go_meet
      exact ⟨by rw [HNN.out]; rfl, rfl⟩
    · have t : decide ((16777216 : Int) < q) = false := by simp; omega
      have HNN : Hid (q = (M : Int)) := by
        show _ = _
        rw [← hM]; unfold roomOf
        by_cases h0 : a0 < 0
        · rw [if_pos h0]; omega
        · rw [if_neg h0, if_neg (by omega)]; omega
      clear hM hq
      go_wp2_with fail
      go_meet
      exact ⟨by rw [HNN.out], rfl⟩
  case rest =>
  obtain ⟨rfl, hw⟩ := hcut
  obtain rfl := hw.symm
  clear hw hM
  have HO1 : Hid (OwnB (x1.alloc (.cells #[] 5)) w.heap.size x1.heap.size 0 []) := ownB_lit x1 w.heap.size [] #[] rfl bytes_nil H1.out.bel.size (by unfold maxLen; simp)
  have HP : Hid (Pl w (x1.alloc (.cells #[] 5)) R none x1.heap.size 0 ⟨[], M, false, false, 0⟩ false 0) :=
    ⟨H1.out.alloc _, HO1.out, ⟨by have := H1.out.dsk.lt; omega, by simp [blk]⟩, fun _ => ⟨rfl, fun h => by cases h⟩⟩
  go_wp2
  go_loopw [7, 8, 9, 10, 11, 12, 13, 14, 15, 16, 17, 131] (fun al dn tn te i _ _ _ _ _ _ _ ws => ∃ (j ga ca t : Nat) (b : Option Addr) (s : DS) (x : Bool), j ≤ len1 ∧ j ≤ 60 ∧ s.room = M ∧ t ≤ 9223372036854775807 ∧ al = .slice (some ⟨ga, 0, none⟩) s.ps.length ca ∧ dn = .bool s.off ∧ tn = .bool x ∧ te = .int .i64 (t : Int) ∧ i = .int .i64 (j : Int) ∧ Hid (Pl w ws R b ga ca s x t)) (fun _ _ _ _ i _ _ _ _ _ _ _ _ => 60 - (intOf i).toNat)
  case atStart => exact ⟨0, x1.heap.size, 0, 0, none, ⟨[], M, false, false, 0⟩, false, Nat.zero_le _, Nat.zero_le _, rfl, by omega, rfl, rfl, rfl, rfl, rfl, HP⟩
  case round =>
    obtain ⟨j, ga, ca, t, b, s, x, hj, hj60, hsM, ht, rfl, rfl, rfl, rfl, rfl, HD⟩ := hrel
    by_cases hlt : j < len1 ∧ j < 60
    · obtain ⟨hlt, hlt6⟩ := hlt
      have d1 : decide ((j : Int) < (len1 : Int)) = true := by simp; omega
      have d2 : decide (j < len1) = true := by simp; omega
      have d3 : decide ((j : Int) < 60) = true := by simp; omega
      obtain ⟨gb, go, ra, rc, rfl, hc0, hc1, hc2, hrow⟩ := HG.out.cell j (by rw [HL.out]; exact hlt)
      obtain ⟨wf0, wf1⟩ := HG.out.wf j (by rw [HL.out]; exact hlt)
      have k0 := cell_later HD.out.disk.bel hc0
      have k1 := cell_later HD.out.disk.bel hc1
      have k2 := cell_later HD.out.disk.bel hc2
      have HROW := Lib.hid hrow
      have hrl : (m1.getD j ac0).bs.length ≤ maxLen := by have := hrow.le; have := hrow.max; omega
      unfold maxLen at hrl
      clear hrow hc0 hc1 hc2
      generalize hwhat : (m1.getD j ac0).what = what at *
      generalize hnn : (m1.getD j ac0).n = n at *
      generalize hrow : (m1.getD j ac0).bs = row at *
      generalize hlen : row.length = l at *
      have HLR := Lib.hid hlen
      clear hrow hlen hwhat hnn
      have j0 : (0 : Int) ≤ (j : Int) := by omega
      have j1 : (j : Int) < (len1 : Int) := by omega
      have HX2 := Lib.hid (bx_new wr what n ra l rc)
      have HD2 := Lib.hid (HD.out.below (below_one wr (.cells #[.int .i64 what, .int .i64 n, .slice ra l rc] 27)))
      by_cases h100 : 100 < l
      · have d4 : decide ((100 : Int) < (l : Int)) = true := by simp; omega
        go_wp2
        go_roundw
        case rel => exact ⟨j + 1, ga, ca, t, b, s, x, by omega, by omega, hsM, ht, rfl, rfl, rfl, rfl, by go_num, HD2⟩
        case measure => simp [intOf]; omega
      have d4 : decide ((100 : Int) < (l : Int)) = false := by simp; omega
      have HKX : Hid (wr.heap.size ∉ R :: blk b) := by
        have h1 := HD.out.disk.newer (Nat.le_refl _)
        show _ ∉ _
        simp only [List.mem_cons, not_or]
        exact h1
      have HFAR : Hid (row ≠ [] → ∀ g ∈ blk ra, g ≠ R) := fun hb => HD.out.disk.far HROW.out hb
      go_upto_block 2 with fail
      have hwx : ∃ x2, x2 = (wr.alloc (.cells #[.int .i64 what, .int .i64 n, .slice ra l rc] 27)) := ⟨_, rfl⟩
      generalize wr.heap.size = B at *
      obtain ⟨x2, hx2⟩ := hwx
      rw [← hx2] at HX2 HD2 ⊢
      clear hx2 k0 k1 k2 HD
      go_cut [7, 8, 9, 10] (fun al dn tn te wx => ∃ (ga ca t : Nat) (b : Option Addr) (s : DS) (x : Bool), s.room = M ∧ t ≤ 9223372036854775807 ∧ al = .slice (some ⟨ga, 0, none⟩) s.ps.length ca ∧ dn = .bool s.off ∧ tn = .bool x ∧ te = .int .i64 (t : Int) ∧ Hid (Pl w wx R b ga ca s x t))
      case first =>
        have kx0 := HX2.out.c0
        have kx1 := HX2.out.c1
        have kx2 := HX2.out.c2
        by_cases e0 : what = 0
        · have t0 : (what == 0) = true := by simp [e0]
          clear e0
          have HSZ : Hid (w.heap.size ≤ x2.heap.size) := HD2.out.disk.bel.size
          have kz2 := cell_later (below_one x2 (.cells #[] 5)) kx2
          have HLL : Hid (row.length ≤ 100) := by show _ ≤ _; rw [HLR.out]; omega
          go_wp2_with (at_builtin; refine wpList_appB rfl (.tmp 51) (.tmp 53) rfl w.heap.size x2.heap.size 0 [] row rfl (ownB_lit x2 w.heap.size [] #[] rfl bytes_nil HSZ.out (by unfold maxLen; simp)) ra rc (by rw [HLR.out]; rfl) ((HROW.out.below HD2.out.disk.bel).below (below_one x2 _)) (by have := HLL.out; simp; omega) (Nat.le_trans HSZ.out (by simp)) ?_; intro g3 c3 x3 own3 chg3 new3; rw [List.nil_append] at own3 ⊢; have HB3 : Hid (Below x2.heap.size x2 x3) := chg3.below (below_one x2 _) (by simp) (by simp); have HO3 := Lib.hid own3; have HX3 := Lib.hid (HX2.out.below HB3.out); have HD3 := Lib.hid (HD2.out.below HB3.out); have ky0 := HX3.out.c0; have ky1 := HX3.out.c1; have ky2 := HX3.out.c2; clear own3 chg3 new3)
          have HFT : Hid (s.ps.length ≤ 16777216) := by have h1 := HD2.out.disk.dsk.fits; have h2 := HD2.out.disk.dsk.most; show _ ≤ _; omega
          have HSZ3 : Hid (w.heap.size ≤ x3.heap.size) := HD3.out.disk.bel.size
          have HE3 : Hid (Ext x3 x3.drew) := below_drew x3
          have HXD := Lib.hid (HX3.out.below HE3.out)
          clear kx0 kx1 kx2 kz2 ky0 ky1 ky2
          refine wp_region_ext (by kernel_rfl) ?_
          refine wpAnyH_tk (i := 1) 59 (v := ?_) rfl rfl (by kernel_rfl) (by kernel_rfl) (by kernel_rfl) (by rfl) (fun wq hwq => ?_) ?_
          rotate_left
          · (go_simp <;> with_reducible rfl)
          simp only [List.setIfInBounds_toArray, List.set_cons_zero, List.set_cons_succ]
          refine wpAnyH_tk (i := 3) 61 (v := ?_) rfl rfl (by kernel_rfl) (by kernel_rfl) (by kernel_rfl) (by rfl) (fun wq hwq => ?_) ?_
          rotate_left
          · (go_simp <;> with_reducible rfl)
          simp only [List.setIfInBounds_toArray, List.set_cons_zero, List.set_cons_succ]
          refine wpAnyH_tk (i := 4) 62 (v := ?_) rfl rfl (by kernel_rfl) (by kernel_rfl) (by kernel_rfl) (by rfl) (fun wq hwq => ?_) ?_
          rotate_left
          · (have hx := (HXD.out.below hwq).c2; go_simp <;> with_reducible rfl)
          simp only [List.setIfInBounds_toArray, List.set_cons_zero, List.set_cons_succ]
          have HQ3 := Lib.hid ((HROW.out.below HD3.out.disk.bel).below HE3.out)
          have HAL3 : Hid (SeenAt x3 (some ⟨ga, 0, none⟩) ca s.ps) := HD3.out.all.seenAt
          refine wpAnyH_oneS (i := 0) rfl (by kernel_rfl) (by rfl) (fun K hK => ?_)
          go_simp
          refine hK.out _ _ (below_one x3.drew (.cells #[] 5)) ?_
          clear hK K
          refine wpAnyH_oneS (i := 2) rfl (by kernel_rfl) (by rfl) (fun K hK => ?_)
          refine wp_appB (.tmp 58) (.tmp 59) rfl w.heap.size x3.heap.size 0 [] s.ps rfl (ownB_lit x3 w.heap.size [] #[] rfl bytes_nil HSZ3.out (by unfold maxLen; simp)).drew (some ⟨ga, 0, none⟩) ca rfl (HAL3.out.below (below_lit x3)) (by have := HFT.out; simp; omega) (Nat.le_trans HSZ3.out (below_lit x3).size) ?_
          intro g4 c4 x4 own4 chg4 new4
          rw [List.nil_append] at own4 ⊢
          have HG4 : Hid (x3.heap.size ≤ g4) := by
            rcases new4 with e4 | e4
            · rw [e4]; exact Nat.le_refl _
            · exact Nat.le_trans (below_lit x3).size e4
          have HB4 : Hid (Below x3.drew.heap.size x3.drew x4) := chg4.below (below_one x3.drew (.cells #[] 5)) (below_lit x3).size (by intro g hg; simp at hg; subst hg; exact Nat.le_refl _)
          have HO4 := Lib.hid own4
          clear own4 chg4 new4
          go_simp
          refine hK.out _ _ HB4.out ?_
          clear hK K
          refine wpAnyH_oneS (i := 5) rfl (by kernel_rfl) (by rfl) (fun K hK => ?_)
          refine wp_appB (.tmp 60) (.tmp 62) rfl w.heap.size g4 c4 s.ps row rfl HO4.out ra rc (by rw [HLR.out]; rfl) ((HQ3.out.below HB4.out)) (by have := HFT.out; rw [HLR.out]; omega) (Nat.le_trans HSZ3.out HB4.out.size) ?_
          intro g5 c5 x5 own5 chg5 new5
          have HG5 : Hid (x3.heap.size ≤ g5) := by
            rcases new5 with e5 | e5
            · rw [e5]; exact HG4.out
            · exact Nat.le_trans HB4.out.size e5
          have HB5 : Hid (Below x3.drew.heap.size x3.drew x5) := chg5.below HB4.out HB4.out.size (by intro g hg; simp at hg; subst hg; exact HG4.out)
          have HO5 := Lib.hid own5
          clear own5 chg5 new5 HO4 HB4 HG4
          go_simp
          refine hK.out _ _ HB5.out ?_
          clear hK K
          refine wpAnyH_oneS (i := 6) rfl (by kernel_rfl) (by rfl) (fun K hK => ?_)
          go_simp
          refine hK.out _ _ HB5.out ?_
          clear hK K
          refine wpAnyH_done (by kernel_rfl) ?_ _
          refine NoPanic.normal ?_
          rw [← List.length_append]
          have HNL : Hid ((s.ps ++ row).length = (if (false : Bool) = true then 0 else s.ps.length) + row.length) := List.length_append
          have HNX : Hid (s.ps ++ row = (if (false : Bool) = true then [] else s.ps) ++ row) := rfl
          generalize s.ps ++ row = nx at *
          have HBy : Hid (Below x3.heap.size x3 x5) := HE3.out.trans HB5.out
          have HDy := Lib.hid (HD3.out.below HBy.out)
          have HXy := Lib.hid (HX3.out.below HBy.out)
          have HAP := Lib.hid (HD3.out.disk.newer HG5.out)
          clear HD3 HX3 HBy HB5 HG5 HXD HQ3 HX2 HD2 HO3 HB3 HE3
          have kx0 := HXy.out.c0
          have kx2 := HXy.out.c2
          by_cases ho : s.off = true
          · have KW := Lib.hid (wrt_off s row false ho)
            go_wp2_with fail
            refine (disk_append w.heap.size R b s ra rc l row _ HDy.out.disk.dsk HLR.out (HROW.out.below HDy.out.disk.bel) HFAR.out).mono ?_
            rw [KW.out]
            rintro e y2 ⟨rfl, b2, hd2, hg2, hw2⟩
            have HD' : Hid (Pl w y2 R b2 ga ca s x t) := Pl.wrote HDy.out.disk HDy.out.all HDy.out.apart hd2 hg2 hw2 HDy.out.torn
            have HX' := Lib.hid (HXy.out.chg hg2 HKX.out)
            clear hd2 hg2 hw2 kx0 kx2
            go_wp2_with fail
            go_meet
            first
              | exact ⟨ga, ca, t, b2, s, x, hsM, ht, rfl, by rw [ho], rfl, rfl, HD'⟩
              | ((repeat apply Exists.intro); exact ⟨⟨ga, ca, t, b2, s, x, hsM, ht, rfl, by rw [ho], rfl, rfl, HD'⟩, rfl⟩)
          have ho' : s.off = false := by simpa using ho
          clear ho
          by_cases hf : M < nx.length
          · have KW := Lib.hid (wrt_full s row false ho' (by rw [hsM, ← HNL.out]; exact hf))
            have d1 : decide ((M : Int) < (nx.length : Int)) = true := by simp; omega
            have d2 : decide (M < nx.length) = true := by simp; omega
            go_wp2_with fail
            refine (disk_append w.heap.size R b s ra rc l row _ HDy.out.disk.dsk HLR.out (HROW.out.below HDy.out.disk.bel) HFAR.out).mono ?_
            rw [KW.out]
            rintro e y2 ⟨rfl, b2, hd2, hg2, hw2⟩
            have HD' : Hid (Pl w y2 R b2 ga ca s x t) := Pl.wrote HDy.out.disk HDy.out.all HDy.out.apart hd2 hg2 hw2 HDy.out.torn
            have HX' := Lib.hid (HXy.out.chg hg2 HKX.out)
            clear hd2 hg2 hw2 kx0 kx2
            go_wp2_with fail
            go_meet
            first
              | exact ⟨ga, ca, t, b2, s, x, hsM, ht, rfl, by rw [ho'], rfl, rfl, HD'⟩
              | ((repeat apply Exists.intro); exact ⟨⟨ga, ca, t, b2, s, x, hsM, ht, rfl, by rw [ho'], rfl, rfl, HD'⟩, rfl⟩)
          have hr' : ¬ s.room < (if (false : Bool) = true then 0 else s.ps.length) + row.length := by rw [hsM, ← HNL.out]; exact hf
          have HRR := Lib.hid hr'
          have d1 : decide ((M : Int) < (nx.length : Int)) = false := by simp; omega
          have d2 : decide (M < nx.length) = false := by simp; omega
          clear hr' hf
          cases x with
          | false =>
            have KT : Hid (s.torn = false) := (HDy.out.torn ho').1.symm
            have KW : Hid (wrt s row false = (0, { s with ps := nx })) := by show _ = _; rw [wrt_ok s row false ho' HRR.out KT.out, ← HNX.out]
            go_wp2_with fail
            refine (disk_append w.heap.size R b s ra rc l row _ HDy.out.disk.dsk HLR.out (HROW.out.below HDy.out.disk.bel) HFAR.out).mono ?_
            rw [KW.out]
            rintro e y2 ⟨rfl, b2, hd2, hg2, hw2⟩
            have HD' : Hid (Pl w y2 R b2 g5 c5 { s with ps := nx } false t) := Pl.wrote HDy.out.disk HO5.out HAP.out hd2 hg2 hw2 (fun h => HDy.out.torn h)
            have HX' := Lib.hid (HXy.out.chg hg2 HKX.out)
            clear hd2 hg2 hw2 kx0 kx2
            go_wp2_with fail
            go_meet
            first
              | exact ⟨g5, c5, t, b2, { s with ps := nx }, false, hsM, ht, rfl, by simp [ho'], rfl, rfl, HD'⟩
              | ((repeat apply Exists.intro); exact ⟨⟨g5, c5, t, b2, { s with ps := nx }, false, hsM, ht, rfl, by simp [ho'], rfl, rfl, HD'⟩, rfl⟩)
          | true =>
            have KT : Hid (s.torn = true) := (HDy.out.torn ho').1.symm
            have KL : Hid (t = s.lim) := (HDy.out.torn ho').2 rfl
            by_cases hl : l ≤ t
            · have KW : Hid (wrt s row false = (6, { s with off := true, ps := nx })) := by
                show _ = _
                rw [wr_torn s row false ho' KT.out HRR.out, if_pos (by rw [HLR.out, ← KL.out]; exact hl), ← HNX.out]
              have e1 : decide ((t : Int) < (l : Int)) = false := by simp; omega
              have e2 : decide (t < l) = false := by simp; omega
              have e3 : decide ((l : Int) ≤ (t : Int)) = true := by simp; omega
              have e4 : decide (l ≤ t) = true := by simp; omega
              go_wp2_with fail
              refine (disk_append w.heap.size R b s ra rc l row _ HDy.out.disk.dsk HLR.out (HROW.out.below HDy.out.disk.bel) HFAR.out).mono ?_
              rw [KW.out]
              rintro e y2 ⟨rfl, b2, hd2, hg2, hw2⟩
              have HD' : Hid (Pl w y2 R b2 g5 c5 { s with off := true, ps := nx } false t) := Pl.wrote HDy.out.disk HO5.out HAP.out hd2 hg2 hw2 (fun h => by cases h)
              have HX' := Lib.hid (HXy.out.chg hg2 HKX.out)
              clear hd2 hg2 hw2 kx0 kx2
              have kk0 := HX'.out.c0
              have kk2 := HX'.out.c2
              go_wp2_with fail
              go_meet
              first
                | exact ⟨g5, c5, t, b2, { s with off := true, ps := nx }, false, hsM, ht, rfl, rfl, rfl, rfl, HD'⟩
                | ((repeat apply Exists.intro); exact ⟨⟨g5, c5, t, b2, { s with off := true, ps := nx }, false, hsM, ht, rfl, rfl, rfl, rfl, HD'⟩, rfl⟩)
            · have e1 : decide ((t : Int) < (l : Int)) = true := by simp; omega
              have e2 : decide (t < l) = true := by simp; omega
              have e3 : decide ((l : Int) ≤ (t : Int)) = false := by simp; omega
              have e4 : decide (l ≤ t) = false := by simp; omega
              have KW : Hid (wrt s row false = (6, { s with off := true, ps := s.ps ++ row.take t })) := by
                show _ = _
                rw [wr_torn s row false ho' KT.out HRR.out, if_neg (by rw [HLR.out, ← KL.out]; exact hl), ← KL.out]
                rfl
              have HRT : Hid ((row.take t).length = t) := by show _ = _; rw [List.length_take, HLR.out]; omega
              have htc : t ≤ rc := by have := HROW.out.le; rw [HLR.out] at this; omega
              have hsl := slice_opt ra l rc t htc
              have hsl' := slice_opt' ra l rc t htc
              have HRW : Hid (SeenAt w ra rc (row.take t)) := HROW.out.take t
              generalize row.take t = rt at *
              go_wp2_with fail
              refine (disk_append w.heap.size R b s ra rc l row _ HDy.out.disk.dsk HLR.out (HROW.out.below HDy.out.disk.bel) HFAR.out).mono ?_
              rw [KW.out]
              rintro e y2 ⟨rfl, b2, hd2, hg2, hw2⟩
              have HX' := Lib.hid (HXy.out.chg hg2 HKX.out)
              have HDW : Hid (DW w y2 R b2 { s with off := true, ps := s.ps ++ rt }) := HDy.out.disk.wrote hd2 hg2
              have HAL2 : Hid (SeenAt y2 (some ⟨ga, 0, none⟩) ca s.ps) := (HDy.out.all.chg hg2 (by simp only [List.mem_cons, not_or]; exact HDy.out.apart)).seenAt
              have HSZ2 : Hid (w.heap.size ≤ y2.heap.size) := HDW.out.bel.size
              clear hd2 hg2 hw2 kx0 kx2
              have kk0 := HX'.out.c0
              have kk2 := HX'.out.c2
              go_upto_region 35 with fail
              have HE2 : Hid (Ext y2 y2.drew) := below_drew y2
              have HXD := Lib.hid (HX'.out.below HE2.out)
              have HQ2 := Lib.hid ((HRW.out.below HDW.out.bel).below HE2.out)
              clear kk0 kk2
              refine wp_region_ext (by kernel_rfl) ?_
              refine wpAnyH_tk (i := 1) 96 (v := ?_) rfl rfl (by kernel_rfl) (by kernel_rfl) (by kernel_rfl) (by rfl) (fun wq hwq => ?_) ?_
              rotate_left
              · (go_simp <;> with_reducible rfl)
              simp only [List.setIfInBounds_toArray, List.set_cons_zero, List.set_cons_succ]
              refine wpAnyH_tk (i := 3) 98 (v := ?_) rfl rfl (by kernel_rfl) (by kernel_rfl) (by kernel_rfl) (by rfl) (fun wq hwq => ?_) ?_
              rotate_left
              · (go_simp <;> with_reducible rfl)
              simp only [List.setIfInBounds_toArray, List.set_cons_zero, List.set_cons_succ]
              refine wpAnyH_tk (i := 4) 99 (v := ?_) rfl rfl (by kernel_rfl) (by kernel_rfl) (by kernel_rfl) (by rfl) (fun wq hwq => ?_) ?_
              rotate_left
              · (have hx := (HXD.out.below hwq).c2; go_simp <;> with_reducible rfl)
              simp only [List.setIfInBounds_toArray, List.set_cons_zero, List.set_cons_succ]
              refine wpAnyH_tk (i := 5) 100 (v := ?_) rfl rfl (by kernel_rfl) (by kernel_rfl) (by kernel_rfl) (by rfl) (fun wq hwq => ?_) ?_
              rotate_left
              · (go_simp <;> with_reducible rfl)
              simp only [List.setIfInBounds_toArray, List.set_cons_zero, List.set_cons_succ]
              refine wpAnyH_tk (i := 6) 101 (v := ?_) rfl rfl (by kernel_rfl) (by kernel_rfl) (by kernel_rfl) (by rfl) (fun wq hwq => ?_) ?_
              rotate_left
              · (go_simp <;> with_reducible rfl)
              simp only [List.setIfInBounds_toArray, List.set_cons_zero, List.set_cons_succ]
              refine wpAnyH_oneS (i := 0) rfl (by kernel_rfl) (by rfl) (fun K hK => ?_)
              go_simp
              refine hK.out _ _ (below_one y2.drew (.cells #[] 5)) ?_
              clear hK K
              refine wpAnyH_oneS (i := 2) rfl (by kernel_rfl) (by rfl) (fun K hK => ?_)
              refine wp_appB (.tmp 95) (.tmp 96) rfl w.heap.size y2.heap.size 0 [] s.ps rfl (ownB_lit y2 w.heap.size [] #[] rfl bytes_nil HSZ2.out (by unfold maxLen; simp)).drew (some ⟨ga, 0, none⟩) ca rfl (HAL2.out.below (below_lit y2)) (by have := HFT.out; simp; omega) (Nat.le_trans HSZ2.out (below_lit y2).size) ?_
              intro g4 c4 x4 own4 chg4 new4
              rw [List.nil_append] at own4 ⊢
              have HG4 : Hid (y2.heap.size ≤ g4) := by
                rcases new4 with e4 | e4
                · rw [e4]; exact Nat.le_refl _
                · exact Nat.le_trans (below_lit y2).size e4
              have HB4 : Hid (Below y2.drew.heap.size y2.drew x4) := chg4.below (below_one y2.drew (.cells #[] 5)) (below_lit y2).size (by intro g hg; simp at hg; subst hg; exact Nat.le_refl _)
              have HO4 := Lib.hid own4
              clear own4 chg4 new4
              go_simp
              refine hK.out _ _ HB4.out ?_
              clear hK K
              refine wpAnyH_oneS (i := 7) rfl (by kernel_rfl) (by rfl) (fun K hK => ?_)
              refine wp_appB (.tmp 97) (.tmp 101) rfl w.heap.size g4 c4 s.ps rt rfl HO4.out ra rc (by rw [HRT.out]; rfl) ((HQ2.out.below HB4.out)) (by have := HFT.out; rw [HRT.out]; omega) (Nat.le_trans HSZ2.out HB4.out.size) ?_
              intro g5 c5 x5 own5 chg5 new5
              have HG5 : Hid (y2.heap.size ≤ g5) := by
                rcases new5 with e5 | e5
                · rw [e5]; exact HG4.out
                · exact Nat.le_trans HB4.out.size e5
              have HB5 : Hid (Below y2.drew.heap.size y2.drew x5) := chg5.below HB4.out HB4.out.size (by intro g hg; simp at hg; subst hg; exact HG4.out)
              have HO5 := Lib.hid own5
              clear own5 chg5 new5 HO4 HB4 HG4
              go_simp
              refine hK.out _ _ HB5.out ?_
              clear hK K
              refine wpAnyH_oneS (i := 8) rfl (by kernel_rfl) (by rfl) (fun K hK => ?_)
              go_simp
              refine hK.out _ _ HB5.out ?_
              clear hK K
              refine wpAnyH_done (by kernel_rfl) ?_ _
              refine NoPanic.normal ?_
              have HBz : Hid (Below y2.heap.size y2 x5) := HE2.out.trans HB5.out
              have HXz := Lib.hid (HX'.out.below HBz.out)
              have HDz := Lib.hid (HDW.out.below HBz.out)
              have HAPz := Lib.hid (HDW.out.newer HG5.out)
              have HPz : Hid (Pl w x5 R b2 g5 c5 { s with off := true, ps := s.ps ++ rt } false t) := ⟨HDz.out, HO5.out, HAPz.out, fun h => by cases h⟩
              have HAA : Hid (s.ps.length + rt.length = (s.ps ++ rt).length) := (List.length_append).symm
              generalize s.ps ++ rt = nz at *
              clear HXD HQ2 HX' HDW HAL2 HBz HB5 HO5 HE2 hsl hsl'
              have kk0 := HXz.out.c0
              have kk2 := HXz.out.c2
              go_wp2_with fail
              go_meet
              first
                | exact ⟨g5, c5, t, b2, { s with off := true, ps := nz }, false, hsM, ht, by show _ = Value.slice _ nz.length _; rw [← HAA.out], rfl, rfl, rfl, HPz⟩
                | ((repeat apply Exists.intro); exact ⟨⟨g5, c5, t, b2, { s with off := true, ps := nz }, false, hsM, ht, by show _ = Value.slice _ nz.length _; rw [← HAA.out], rfl, rfl, rfl, HPz⟩, rfl⟩)
        have t0 : (what == 0) = false := by simp [e0]
        clear e0
        by_cases e1 : what = 1
        · have t1 : (what == 1) = true := by simp [e1]
          clear e1
          have HSZ : Hid (w.heap.size ≤ x2.heap.size) := HD2.out.disk.bel.size
          have kz2 := cell_later (below_one x2 (.cells #[] 5)) kx2
          have HLL : Hid (row.length ≤ 100) := by show _ ≤ _; rw [HLR.out]; omega
          go_wp2_with (at_builtin; refine wpList_appB rfl (.tmp 51) (.tmp 53) rfl w.heap.size x2.heap.size 0 [] row rfl (ownB_lit x2 w.heap.size [] #[] rfl bytes_nil HSZ.out (by unfold maxLen; simp)) ra rc (by rw [HLR.out]; rfl) ((HROW.out.below HD2.out.disk.bel).below (below_one x2 _)) (by have := HLL.out; simp; omega) (Nat.le_trans HSZ.out (by simp)) ?_; intro g5 c5 y own5 chg5 new5; rw [List.nil_append] at own5 ⊢; have HBy : Hid (Below x2.heap.size x2 y) := chg5.below (below_one x2 _) (by simp) (by simp); have HAP := Lib.hid (HD2.out.disk.newer (g := g5) (by rcases new5 with e5 | e5; exact Nat.le_of_eq e5.symm; exact Nat.le_trans (by simp) e5)); have HO5 := Lib.hid own5; have HXy := Lib.hid (HX2.out.below HBy.out); have HDy := Lib.hid (HD2.out.below HBy.out); have kx0 := HXy.out.c0; have kx2 := HXy.out.c2; clear own5 chg5 new5)
          clear HX2 HD2 kx1 kz2
          have HNL : Hid (row.length = (if (true : Bool) = true then 0 else s.ps.length) + row.length) := by show _ = _; simp
          have HNX : Hid (row = (if (true : Bool) = true then [] else s.ps) ++ row) := rfl
          have kx0 := HXy.out.c0
          have kx2 := HXy.out.c2
          by_cases ho : s.off = true
          · have KW := Lib.hid (wrt_off s row true ho)
            go_wp2_with fail
            refine (disk_replace w.heap.size R b s ra rc l row _ HDy.out.disk.dsk HLR.out (HROW.out.below HDy.out.disk.bel) HFAR.out).mono ?_
            rw [KW.out]
            rintro e y2 ⟨rfl, b2, hd2, hg2, hw2⟩
            have HD' : Hid (Pl w y2 R b2 ga ca s x t) := Pl.wrote HDy.out.disk HDy.out.all HDy.out.apart hd2 hg2 hw2 HDy.out.torn
            have HX' := Lib.hid (HXy.out.chg hg2 HKX.out)
            clear hd2 hg2 hw2 kx0 kx2
            go_wp2_with fail
            go_meet
            first
              | exact ⟨ga, ca, t, b2, s, x, hsM, ht, rfl, by rw [ho], rfl, rfl, HD'⟩
              | ((repeat apply Exists.intro); exact ⟨⟨ga, ca, t, b2, s, x, hsM, ht, rfl, by rw [ho], rfl, rfl, HD'⟩, rfl⟩)
          have ho' : s.off = false := by simpa using ho
          clear ho
          by_cases hf : M < row.length
          · have KW := Lib.hid (wrt_full s row true ho' (by rw [hsM, ← HNL.out]; exact hf))
            have d1 : decide ((M : Int) < (row.length : Int)) = true := by simp; omega
            have d2 : decide (M < row.length) = true := by simp; omega
            go_wp2_with fail
            refine (disk_replace w.heap.size R b s ra rc l row _ HDy.out.disk.dsk HLR.out (HROW.out.below HDy.out.disk.bel) HFAR.out).mono ?_
            rw [KW.out]
            rintro e y2 ⟨rfl, b2, hd2, hg2, hw2⟩
            have HD' : Hid (Pl w y2 R b2 ga ca s x t) := Pl.wrote HDy.out.disk HDy.out.all HDy.out.apart hd2 hg2 hw2 HDy.out.torn
            have HX' := Lib.hid (HXy.out.chg hg2 HKX.out)
            clear hd2 hg2 hw2 kx0 kx2
            go_wp2_with fail
            go_meet
            first
              | exact ⟨ga, ca, t, b2, s, x, hsM, ht, rfl, by rw [ho'], rfl, rfl, HD'⟩
              | ((repeat apply Exists.intro); exact ⟨⟨ga, ca, t, b2, s, x, hsM, ht, rfl, by rw [ho'], rfl, rfl, HD'⟩, rfl⟩)
          have hr' : ¬ s.room < (if (true : Bool) = true then 0 else s.ps.length) + row.length := by rw [hsM, ← HNL.out]; exact hf
          have HRR := Lib.hid hr'
          have d1 : decide ((M : Int) < (row.length : Int)) = false := by simp; omega
          have d2 : decide (M < row.length) = false := by simp; omega
          clear hr' hf
          cases x with
          | false =>
            have KT : Hid (s.torn = false) := (HDy.out.torn ho').1.symm
            have KW : Hid (wrt s row true = (0, { s with ps := row })) := by show _ = _; rw [wrt_ok s row true ho' HRR.out KT.out, ← HNX.out]
            go_wp2_with fail
            refine (disk_replace w.heap.size R b s ra rc l row _ HDy.out.disk.dsk HLR.out (HROW.out.below HDy.out.disk.bel) HFAR.out).mono ?_
            rw [KW.out]
            rintro e y2 ⟨rfl, b2, hd2, hg2, hw2⟩
            have HD' : Hid (Pl w y2 R b2 g5 c5 { s with ps := row } false t) := Pl.wrote HDy.out.disk HO5.out HAP.out hd2 hg2 hw2 (fun h => HDy.out.torn h)
            have HX' := Lib.hid (HXy.out.chg hg2 HKX.out)
            clear hd2 hg2 hw2 kx0 kx2
            go_wp2_with fail
            go_meet
            first
              | exact ⟨g5, c5, t, b2, { s with ps := row }, false, hsM, ht, rfl, by simp [ho'], rfl, rfl, HD'⟩
              | ((repeat apply Exists.intro); exact ⟨⟨g5, c5, t, b2, { s with ps := row }, false, hsM, ht, rfl, by simp [ho'], rfl, rfl, HD'⟩, rfl⟩)
          | true =>
            have KT : Hid (s.torn = true) := (HDy.out.torn ho').1.symm
            have KL : Hid (t = s.lim) := (HDy.out.torn ho').2 rfl
            by_cases hl : l ≤ t
            · have KW : Hid (wrt s row true = (6, { s with off := true, ps := row })) := by
                show _ = _
                rw [wr_torn s row true ho' KT.out HRR.out, if_pos (by rw [HLR.out, ← KL.out]; exact hl), ← HNX.out]
              have e1 : decide ((t : Int) < (l : Int)) = false := by simp; omega
              have e2 : decide (t < l) = false := by simp; omega
              have e3 : decide ((l : Int) ≤ (t : Int)) = true := by simp; omega
              have e4 : decide (l ≤ t) = true := by simp; omega
              go_wp2_with fail
              refine (disk_replace w.heap.size R b s ra rc l row _ HDy.out.disk.dsk HLR.out (HROW.out.below HDy.out.disk.bel) HFAR.out).mono ?_
              rw [KW.out]
              rintro e y2 ⟨rfl, b2, hd2, hg2, hw2⟩
              have HD' : Hid (Pl w y2 R b2 g5 c5 { s with off := true, ps := row } false t) := Pl.wrote HDy.out.disk HO5.out HAP.out hd2 hg2 hw2 (fun h => by cases h)
              have HX' := Lib.hid (HXy.out.chg hg2 HKX.out)
              clear hd2 hg2 hw2 kx0 kx2
              have kk0 := HX'.out.c0
              have kk2 := HX'.out.c2
              go_wp2_with fail
              go_meet
              first
                | exact ⟨g5, c5, t, b2, { s with off := true, ps := row }, false, hsM, ht, rfl, rfl, rfl, rfl, HD'⟩
                | ((repeat apply Exists.intro); exact ⟨⟨g5, c5, t, b2, { s with off := true, ps := row }, false, hsM, ht, rfl, rfl, rfl, rfl, HD'⟩, rfl⟩)
            · have e1 : decide ((t : Int) < (l : Int)) = true := by simp; omega
              have e2 : decide (t < l) = true := by simp; omega
              have e3 : decide ((l : Int) ≤ (t : Int)) = false := by simp; omega
              have e4 : decide (l ≤ t) = false := by simp; omega
              have KW : Hid (wrt s row true = (6, { s with off := true })) := by
                show _ = _
                rw [wr_torn s row true ho' KT.out HRR.out, if_neg (by rw [HLR.out, ← KL.out]; exact hl)]
                rfl
              go_wp2_with fail
              refine (disk_replace w.heap.size R b s ra rc l row _ HDy.out.disk.dsk HLR.out (HROW.out.below HDy.out.disk.bel) HFAR.out).mono ?_
              rw [KW.out]
              rintro e y2 ⟨rfl, b2, hd2, hg2, hw2⟩
              have HD' : Hid (Pl w y2 R b2 ga ca { s with off := true } false t) := Pl.wrote HDy.out.disk HDy.out.all HDy.out.apart hd2 hg2 hw2 (fun h => by cases h)
              have HX' := Lib.hid (HXy.out.chg hg2 HKX.out)
              clear hd2 hg2 hw2 kx0 kx2
              have kk0 := HX'.out.c0
              have kk2 := HX'.out.c2
              go_wp2_with fail
              go_meet
              first
                | exact ⟨ga, ca, t, b2, { s with off := true }, false, hsM, ht, rfl, rfl, rfl, rfl, HD'⟩
                | ((repeat apply Exists.intro); exact ⟨⟨ga, ca, t, b2, { s with off := true }, false, hsM, ht, rfl, rfl, rfl, rfl, HD'⟩, rfl⟩)
        · have t1 : (what == 1) = false := by simp [e1]
          clear e1
          by_cases e2 : what = 2
          · have t2 : (what == 2) = true := by simp [e2]
            clear e2
            obtain ⟨hn1, hn2⟩ := wf_int wf1
            go_wp2_with fail
            refine (disk_tear w.heap.size R b s n _ HD2.out.disk.dsk).mono ?_
            rintro e y2 ⟨rfl, hd2, hg2⟩
            have HX' := Lib.hid (HX2.out.chg hg2 (by have := HKX.out; simp only [List.mem_cons, not_or] at this; simpa using this.1))
            have HD' : Hid (Pl w y2 R b ga ca { s with torn := true, lim := n.toNat } true n.toNat) := HD2.out.done hd2 hg2 rfl (fun _ => ⟨rfl, fun _ => rfl⟩)
            clear hd2 hg2 kx0 kx1 kx2
            have kk1 := HX'.out.c1
            go_upto_region 42 with fail
            have HXD := Lib.hid (HX'.out.below (below_drew y2))
            have HDD := Lib.hid (HD'.out.below (below_drew y2))
            clear kk1
            refine wp_region_ext (by kernel_rfl) ?_
            refine wpAnyH_tk (i := 0) 123 (v := ?_) rfl rfl (by kernel_rfl) (by kernel_rfl) (by kernel_rfl) (by rfl) (fun wq hwq => ?_) ?_
            rotate_left
            · (go_simp <;> with_reducible rfl)
            simp only [List.setIfInBounds_toArray, List.set_cons_zero, List.set_cons_succ]
            refine wpAnyH_tk (i := 1) 124 (v := ?_) rfl rfl (by kernel_rfl) (by kernel_rfl) (by kernel_rfl) (by rfl) (fun wq hwq => ?_) ?_
            rotate_left
            · (have hx := (HXD.out.below hwq).c1; go_simp <;> with_reducible rfl)
            simp only [List.setIfInBounds_toArray, List.set_cons_zero, List.set_cons_succ]
            refine wpAnyH_tk (i := 2) 9 (v := ?_) rfl rfl (by kernel_rfl) (by kernel_rfl) (by kernel_rfl) (by rfl) (fun wq hwq => ?_) ?_
            rotate_left
            · (go_simp <;> with_reducible rfl)
            simp only [List.setIfInBounds_toArray, List.set_cons_zero, List.set_cons_succ]
            refine wpAnyH_tk (i := 3) 10 (v := ?_) rfl rfl (by kernel_rfl) (by kernel_rfl) (by kernel_rfl) (by rfl) (fun wq hwq => ?_) ?_
            rotate_left
            · (go_simp <;> with_reducible rfl)
            simp only [List.setIfInBounds_toArray, List.set_cons_zero, List.set_cons_succ]
            refine wpAnyH_done (by kernel_rfl) ?_ _
            refine NoPanic.normal ?_
            clear HXD HX'
            by_cases hn : n < 0
            · have e2 : decide (n < 0) = true := by simp; omega
              have HNN : Hid (n.toNat = 0) := by show _ = _; omega
              go_wp2_with fail
              go_meet
              first
                | exact ⟨ga, ca, n.toNat, b, { s with torn := true, lim := n.toNat }, true, hsM, by omega, rfl, rfl, rfl, by rw [HNN.out]; rfl, HDD⟩
                | ((repeat apply Exists.intro); exact ⟨⟨ga, ca, n.toNat, b, { s with torn := true, lim := n.toNat }, true, hsM, by omega, rfl, rfl, rfl, by rw [HNN.out]; rfl, HDD⟩, rfl⟩)
            · have e2 : decide (n < 0) = false := by simp; omega
              have HNN : Hid (n = (n.toNat : Int)) := by show _ = _; omega
              go_wp2_with fail
              go_meet
              first
                | exact ⟨ga, ca, n.toNat, b, { s with torn := true, lim := n.toNat }, true, hsM, by omega, rfl, rfl, rfl, by rw [← HNN.out], HDD⟩
                | ((repeat apply Exists.intro); exact ⟨⟨ga, ca, n.toNat, b, { s with torn := true, lim := n.toNat }, true, hsM, by omega, rfl, rfl, rfl, by rw [← HNN.out], HDD⟩, rfl⟩)
          · have t2 : (what == 2) = false := by simp [e2]
            clear e2
            by_cases e3 : what = 3
            · have t3 : (what == 3) = true := by simp [e3]
              clear e3
              go_wp2_with fail
              refine (disk_crash w.heap.size R b s _ HD2.out.disk.dsk).mono ?_
              rintro e y2 ⟨rfl, hd2, hg2⟩
              have HD' : Hid (Pl w y2 R b ga ca { s with off := true } x t) := HD2.out.done hd2 hg2 rfl (fun h => by cases h)
              clear hd2 hg2 kx0 kx1 kx2
              go_wp2_with fail
              go_meet
              first
                | exact ⟨ga, ca, t, b, { s with off := true }, x, hsM, ht, rfl, rfl, rfl, rfl, HD'⟩
                | ((repeat apply Exists.intro); exact ⟨⟨ga, ca, t, b, { s with off := true }, x, hsM, ht, rfl, rfl, rfl, rfl, HD'⟩, rfl⟩)
            · have t3 : (what == 3) = false := by simp [e3]
              clear e3
              go_wp2_with fail
              refine (disk_start w.heap.size R b s _ HD2.out.disk.dsk).mono ?_
              rintro e y2 ⟨rfl, hd2, hg2⟩
              have HD' : Hid (Pl w y2 R b ga ca { s with off := false, torn := false } false t) := HD2.out.done hd2 hg2 rfl (fun _ => ⟨rfl, fun h => by cases h⟩)
              clear hd2 hg2 kx0 kx1 kx2
              go_wp2_with fail
              go_meet
              first
                | exact ⟨ga, ca, t, b, { s with off := false, torn := false }, false, hsM, ht, rfl, rfl, rfl, rfl, HD'⟩
                | ((repeat apply Exists.intro); exact ⟨⟨ga, ca, t, b, { s with off := false, torn := false }, false, hsM, ht, rfl, rfl, rfl, rfl, HD'⟩, rfl⟩)
      case rest =>
      clear HX2 HD2 HKX HFAR HROW HLR
      obtain ⟨ga, ca, t, b, s, x, hsM, ht, rfl, rfl, rfl, rfl, HP⟩ := hcut
      by_cases ho : s.off = true
      · go_wp2_with fail
        refine (disk_read_off w.heap.size R b s _ HP.out.disk.dsk ho).mono ?_
        rintro e w' ⟨rfl, rfl⟩
        go_wp2_with fail
        refine (disk_up w.heap.size R b s _ HP.out.disk.dsk).mono ?_
        rintro e w' ⟨rfl, rfl⟩
        go_wp2
        go_roundw
        case rel => exact ⟨j + 1, ga, ca, t, b, s, x, by omega, by omega, hsM, ht, rfl, by rw [ho], rfl, rfl, by go_num, HP⟩
        case measure => simp [intOf]; omega
      · have ho' : s.off = false := by simpa using ho
        clear ho
        go_wp2_with fail
        refine (disk_read_on w.heap.size R b s _ HP.out.disk.dsk ho').mono ?_
        rintro e y2 ⟨a2, c2, rfl, hs2, _, hb2⟩
        have HP2 := Lib.hid (HP.out.below hb2)
        have st1 := str_at hs2 rfl
        have st2 := str_at HP2.out.all.seenAt rfl
        clear hs2 hb2 HP
        go_wp2_with fail
        refine (disk_up w.heap.size R b s _ HP2.out.disk.dsk).mono ?_
        rintro e w' ⟨rfl, rfl⟩
        go_wp2
        go_roundw
        case rel => exact ⟨j + 1, ga, ca, t, b, s, x, by omega, by omega, hsM, ht, rfl, by rw [ho'], rfl, rfl, by go_num, HP2⟩
        case measure => simp [intOf]; omega
    · have t : decide ((j : Int) < (len1 : Int)) = false ∧ decide (j < len1) = false ∨ decide ((j : Int) < (len1 : Int)) = true ∧ decide (j < len1) = true ∧ decide ((j : Int) < 60) = false := by simp; omega
      rcases t with ⟨t1, t2⟩ | ⟨t1, t2, t3⟩
      all_goals
        go_wp2_with fail
        refine (awake8 _).mono ?_
        rintro e x2 ⟨rfl, hb2⟩
        have H2 := Lib.hid (HD.out.disk.below hb2).bel
        clear hb2
        go_wp2
        go_ret
        exact ⟨rfl, H2.out⟩

end Go.Proofs.Ytfkknggjnbjnjaa
