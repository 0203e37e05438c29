/-
  The walk of the law BookOpens.
-/
import Derived.Test.YtfcjnhcolkpppaaGood9
import Derived.Deep.DeepCutAuto
namespace Go.Proofs.Ytfcjnhcolkpppaa
open Go.RowKit


def Clamped9 (w : World) (a : Option Addr) (c : Nat) (v : Value) : Prop := ∃ (l : Nat) (qs : List Nat), v = .slice a l c ∧ l ≤ 300 ∧ qs.length = l ∧ SeenAt w a c qs


set_option maxRecDepth 100000 in
set_option maxHeartbeats 4000000 in
theorem bookOpens_walk (a0 : Option Addr) (len0 cap0 : Nat) (m0 : List Rl) (a1 : Option Addr) (len1 cap1 : Nat) (m1 : List Nat) (w : World) (w0 : m0.length = len0 ∧ RcA w a0 cap0 m0 ∧ OldX w.heap.size m0) (w1 : m1.length = len1 ∧ SeenAt w a1 cap1 m1) :
    Calls Try.prog 4 #[.slice a0 len0 cap0, .slice a1 len1 cap1] w fun e w' => e = .returned (.bool true) ∧ Below w.heap.size w w' := by
  have h0 : len0 ≤ maxLen := by have := w0.1; have := w0.2.1.le; have := w0.2.1.max; omega
  have h1 : len1 ≤ maxLen := by have := w1.1; have := w1.2.le; have := w1.2.max; omega
  have hc1 : len1 ≤ cap1 := by have := w1.1; have := w1.2.le; omega
  unfold maxLen at h0 h1
  have HL0 := Lib.hid w0.1
  have HX0 := Lib.hid w0.2.1
  have HOX := Lib.hid w0.2.2
  have HL1 := Lib.hid w1.1
  have HS1 := Lib.hid w1.2
  have HG0 : Hid (Rcs (w.alloc (.cells #[] 36)) w.heap.size (some ⟨w.heap.size, 0, none⟩) 0 []) := rcs_lit w w.heap.size w.heap.size rfl (Nat.le_refl _)
  have E0 : Hid (Ext w (w.alloc (.cells #[] 36))) := below_one w _
  clear w0 w1
  go_enter Try.func4, Try.ntmps4
  go_wp2
  go_loopw [5, 6] (fun v i ws => ∃ (k n vc : Nat) (va : Option Addr) (ys : List Rl), k ≤ len0 ∧ k ≤ 8 ∧ n ≤ k ∧ i = .int .i64 k ∧ v = .slice va n vc ∧ Hid (ys.length = n) ∧ Hid (Rcs ws w.heap.size va vc ys) ∧ Hid (∀ y ∈ ys, GoodX y ∧ y.lo = 0 ∧ y.hi = w.heap.size) ∧ Hid (Ext w ws)) (fun _ i _ => len0 - (intOf i).toNat)
  case atStart => exact ⟨0, 0, 0, some ⟨w.heap.size, 0, none⟩, [], Nat.zero_le _, Nat.zero_le _, Nat.le_refl _, rfl, rfl, rfl, HG0, by intro y hy; simp at hy, E0⟩
  case round =>
    obtain ⟨k, n, vc, va, ys, hk, hk8, hnk, rfl, rfl, HN, HO, HY, HB⟩ := hrel
    by_cases hlt : k < len0 ∧ k < 8
    · have j0 : (0 : Int) ≤ (k : Int) := by omega
      have j1 : (k : Int) < (len0 : Int) := by omega
      have j2 : decide ((k : Int) < (len0 : Int)) = true := by simp; omega
      have j3 : decide ((k : Int) < 8) = true := by simp; omega
      have hlt2 := hlt.2
      have hlt1 := hlt.1
      obtain ⟨b, off, e0, hc, hok⟩ := (HX0.out.below HB.out).one k (by rw [HL0.out]; exact hlt1)
      subst e0
      have HMEM := Lib.hid (HOX.out _ (getD_mem m0 k rl0 (by rw [HL0.out]; exact hlt1)))
      have HROB := Lib.hid (HX0.out.rob _ (getD_mem m0 k rl0 (by rw [HL0.out]; exact hlt1)))
      generalize m0.getD k rl0 = x at *
      obtain ⟨r, ma, mc, ea, ec, lo, hi⟩ := x
      dsimp only at HMEM HROB hc
      have HOK : Hid (RecAt wr ma mc ea ec r) := hok
      obtain ⟨lm, hlm⟩ : ∃ q, r.mem.length = q := ⟨_, rfl⟩
      obtain ⟨le, hle⟩ : ∃ q, r.ents.length = q := ⟨_, rfl⟩
      rw [hlm, hle] at hc
      have HLM := Lib.hid hlm
      have HLE := Lib.hid hle
      have HC := Lib.hid hc
      have c0 := hc.c0
      have c1 := hc.c1
      have c2 := hc.c2
      have c3 := hc.c3
      have c4 := hc.c4
      have c5 := hc.c5
      clear hc hok hlm hle hlt
      go_wp2_with fail
      refine (small_any _ _ _ _ lm le _ _ _ _ _).mono ?_
      rintro e w2 ⟨rfl, hb2⟩
      have HB2 := Lib.hid (HB.out.trans hb2)
      have HC2 := Lib.hid (HC.out.below hb2)
      have HOK2 := Lib.hid (HOK.out.below hb2)
      have HO2 := Lib.hid (HO.out.below hb2)
      have HROB2 := Lib.hid (HROB.out.chg (gs := []) (Chg.of_below HB2.out) (by simp))
      clear hb2 HC HOK HO c0 c1 c2 c3 c4 c5
      have c0 := HC2.out.c0
      have c1 := HC2.out.c1
      have c2 := HC2.out.c2
      have c3 := HC2.out.c3
      have c4 := HC2.out.c4
      have c5 := HC2.out.c5
      by_cases hsm : le ≤ 6 ∧ lm ≤ 40
      · have t0 : (decide (le ≤ 6) && decide (lm ≤ 40)) = true := by simp [hsm]
        rw [t0]
        have hle6 := hsm.1
        clear t0 hsm
        go_wp2_with fail
        refine (refRec_any _ _ _ _ _ _ r _ HOK2.out HLM.out HLE.out).mono ?_
        rintro e w3 ⟨rfl, hb3⟩
        have HB3 := Lib.hid (HB2.out.trans hb3)
        have HO3 := Lib.hid (HO2.out.below hb3)
        have HC3 := Lib.hid (HC2.out.below hb3)
        have HROB3 := Lib.hid (HROB2.out.chg (gs := []) (Chg.of_below hb3) (by simp))
        clear hb3 c0 c1 c2 c3 c4 c5
        have c0 := HC3.out.c0
        have c1 := HC3.out.c1
        have c2 := HC3.out.c2
        have c3 := HC3.out.c3
        have c4 := HC3.out.c4
        have c5 := HC3.out.c5
        cases hs : sndR r with
        | false =>
          clear hs
          go_wp2_with fail
          go_roundw
          case rel => exact ⟨k + 1, n, vc, va, ys, by omega, by omega, by omega, by go_num, rfl, HN, HO3, HY, HB3⟩
          case measure => simp [intOf]; omega
        | true =>
          have HGX : Hid (GoodX ⟨r, ma, mc, ea, ec, lo, hi⟩) := ⟨hs, by show r.ents.length ≤ 6; rw [HLE.out]; exact hle6, HOK2.out.wf⟩
          clear hs
          have hbl := below_one w3 (.cells #[.int .i64 r.kind, .int .i64 r.epoch, .slice ma lm mc, .int .i64 r.pos, .int .i64 r.last, .slice ea le ec] 36)
          have HA4 := Lib.hid (rca_box r ma ea mc ec lo hi lm le w3.heap.size HLM.out HLE.out rfl HROB3.out)
          have HO4 := Lib.hid (HO3.out.below hbl)
          have HB4 := Lib.hid (HB3.out.trans hbl)
          have hml := HMEM.out
          have hbs := HB4.out.size
          clear hbl
          go_wp2_with (at_builtin; refine wpList_appRec rfl (.tmp 36) (.tmp 41) rfl w.heap.size va vc n ys HN.out rfl HO4.out _ 1 1 [⟨r, ma, mc, ea, ec, lo, hi⟩] rfl rfl HA4.out (by omega) HB4.out.size (fun y hy => by rw [List.mem_singleton.mp hy]; exact ⟨by show hi ≤ _; rw [HMEM.out.2]; exact HB4.out.size, fun g hg => .inr (by show hi ≤ _; rw [HMEM.out.2]; exact (HO4.out.lt hg).1)⟩) ?_; intro va5 vc5 w5 ho5 chg5 hat5; have HO5 := Lib.hid ho5; have HE5 : Hid (Ext w w5) := chg5.below HB4.out HB4.out.size (fun g hg => (HO4.out.lt hg).1); clear ho5 chg5 hat5)
          have HN5 : Hid ((ys ++ [(⟨r, ma, mc, ea, ec, lo, hi⟩ : Rl)]).length = n + 1) := by show _ = _; rw [List.length_append, HN.out]; rfl
          have HY5 : Hid (∀ y ∈ ys ++ [(⟨r, ma, mc, ea, ec, lo, hi⟩ : Rl)], GoodX y ∧ y.lo = 0 ∧ y.hi = w.heap.size) := by
            intro y hy
            rcases List.mem_append.mp hy with hy | hy
            · exact HY.out y hy
            · rw [List.mem_singleton.mp hy]
              exact ⟨HGX.out, HMEM.out⟩
          go_roundw
          case rel => exact ⟨k + 1, n + 1, vc5, va5, _, by omega, by omega, by omega, by go_num, rfl, HN5, HO5, HY5, HE5⟩
          case measure => simp [intOf]; omega
      · have t0 : (decide (le ≤ 6) && decide (lm ≤ 40)) = false := by
          rw [Bool.and_eq_false_iff]
          simp
          omega
        rw [t0]
        clear t0 hsm
        go_wp2_with fail
        go_roundw
        case rel => exact ⟨k + 1, n, vc, va, ys, by omega, by omega, by omega, by go_num, rfl, HN, HO2, HY, HB2⟩
        case measure => simp [intOf]; omega
    · have t : decide ((k : Int) < (len0 : Int)) = false ∧ decide (k < len0) = false ∨ decide ((k : Int) < (len0 : Int)) = true ∧ decide (k < len0) = true ∧ decide ((k : Int) < 8) = false := by simp; omega
      have hn8 : n ≤ 8 := by omega
      rcases t with ⟨t1, t2⟩ | ⟨t1, t2, t3⟩
      · skip
        go_upto_if 45 with fail
        go_cut [1, 45] (fun s _ wx => Clamped9 w a1 cap1 s ∧ wx = wr)
        case first =>
          by_cases h500 : 300 < len1
          · have d1 : decide ((300 : Int) < (len1 : Int)) = true := by simp; omega
            obtain ⟨b, off, e, _⟩ := HS1.out.cell 0 (by rw [HL1.out]; omega)
            subst e
            have hcc : 300 ≤ cap1 := by omega
            have hsl := slice_toD b off len1 cap1 300 hcc wr
            have hsl' := slice_toD' b off len1 cap1 300 hcc wr
            have HTK := Lib.hid (HS1.out.take 300)
            have HTL : Hid ((m1.take 300).length = 300) := by show _ = _; rw [List.length_take, HL1.out]; omega
            go_wp2_with fail
            go_meet
            exact ⟨⟨300, m1.take 300, rfl, by omega, HTL.out, HTK.out⟩, rfl⟩
          · have d1 : decide ((300 : Int) < (len1 : Int)) = false := by simp; omega
            go_wp2_with fail
            go_meet
            exact ⟨⟨len1, m1, rfl, by omega, HL1.out, HS1.out⟩, rfl⟩
        case rest =>
        obtain ⟨⟨l, qs, rfl, hl5, hl, hs⟩, hw⟩ := hcut
        obtain rfl := hw.symm
        have HL := Lib.hid hl
        have HS := Lib.hid hs
        clear hl hs
        go_wp2_with fail
        refine (disk_new 1048576 _).mono ?_
        rintro e w2 ⟨R, rfl, -, hd2, hb2⟩
        rw [show roomOf 1048576 = 1048576 by decide] at hd2
        have HD2 := Lib.hid hd2
        have E2 : Hid (Below wr.heap.size wr w2) := hb2
        have HGR := Lib.hid HO.out.at_
        clear hd2 hb2
        go_wp2_with fail
        refine (lawAll_any _ _ n ys _ HN.out (HGR.out.below E2.out) (fun y hy => (HY.out y hy).1.small.med) (by have := good_frms ys (fun y hy => (HY.out y hy).1); rw [HN.out] at this; omega)).mono ?_
        rintro e w3 ⟨g3, c3, rfl, ho3, hb3⟩
        have HFB := Lib.hid (good_bytes ys (fun y hy => (HY.out y hy).1))
        have HFL : Hid ((frms (ys.map encX)).length ≤ 18720) := by have := good_frms ys (fun y hy => (HY.out y hy).1); rw [HN.out] at this; show _ ≤ _; omega
        have HD3 := Lib.hid (HD2.out.below hb3)
        have E3 := Lib.hid (E2.out.trans (hb3.mono E2.out.size))
        have HOB := Lib.hid ho3
        have HQ3 := Lib.hid (HS.out.below (Ext.trans HB.out E3.out))
        have hR2 := HD2.out.lt
        have hg3 := ho3.lt
        obtain ⟨q, hq⟩ : ∃ q, (frms (ys.map encX)).length = q := ⟨_, rfl⟩
        rw [hq]
        have hq2 : q ≤ 18720 := by rw [← hq]; exact HFL.out
        have HQ := Lib.hid hq
        clear ho3 hb3 hq HD2
        go_wp2_with (at_builtin; refine wpList_appB rfl (.tmp 51) (.tmp 52) rfl w2.heap.size g3 c3 (frms (ys.map encX)) qs (by rw [HQ.out]; rfl) HOB.out _ cap1 (by rw [HL.out]; rfl) HQ3.out (by rw [HQ.out, HL.out]; omega) (by omega) ?_; intro g4 c4 w4 ho4 chg4 hg4; rw [show (frms (ys.map encX) ++ qs).length = q + l by rw [List.length_append, HQ.out, HL.out]]; have HO4B := Lib.hid ho4; have HD4 := Lib.hid (HD3.out.chg chg4 (by simp; omega) (by simp [blk])); have E4 : Hid (Below wr.heap.size wr w4) := chg4.below E3.out E3.out.size (by have := E2.out.size; simp; omega); clear ho4 chg4 hg4)
        have HPL : Hid ((frms (ys.map encX) ++ qs).length = q + l) := by show _ = _; rw [List.length_append, HQ.out, HL.out]
        have HPB : Hid (Gf.Bytes (frms (ys.map encX) ++ qs)) := bytes_app' HFB.out HS.out.byte
        have hg4 := HO4B.out.lt
        refine (disk_append wr.heap.size R none ⟨[], 1048576, false, false, 0⟩ _ c4 (q + l) (frms (ys.map encX) ++ qs) _ HD4.out HPL.out HO4B.out.seenAt (fun _ g hg => by simp [blk] at hg; omega)).mono ?_
        rw [wrt_new _ (by rw [HPL.out]; omega)]
        rintro e w5 ⟨rfl, a5, hd5, hg5, hw5⟩
        have HD5 := Lib.hid hd5
        have E5 : Hid (Below wr.heap.size wr w5) := hg5.below E4.out E4.out.size (by simp [blk]; exact HD4.out.base)
        clear hd5 hg5 hw5 HO4B HD4 HD3 HOB HFB HFL E4 E3
        go_wp2_with fail
        refine (bkOpen_any wr.heap.size R a5 _ _ HD5.out rfl rfl).mono ?_
        rintro e w6 ⟨RB, a6, ga6, cs, rest, F6, rfl, hv6, hk6, hm6⟩
        have HV := Lib.hid hv6
        have h6 := hm6.below E5.out (fun g hg => by rcases List.mem_cons.mp hg with rfl | hg; exact HD5.out.base; exact (HD5.out.blkLt hg).1)
        have H6 : Hid (St wr w6 RB R a6 ga6 ⟨frms cs, 1048576, false, false, 0⟩ cs F6) := ⟨hk6, h6.1⟩
        clear hv6 hk6 hm6 h6 HD5 E5
        have HVE := HV.out.eq
        dsimp only at HVE
        have HBE : Hid (Gf.Bytes (frms cs ++ rest)) := by rw [← HVE]; exact HPB.out
        have HLE : Hid ((frms cs).length ≤ 20000) := by
          have := congrArg List.length HVE
          rw [HPL.out, List.length_append] at this
          show _ ≤ _
          omega
        have HCS : Hid (∀ c ∈ cs, decB c = true ∧ Gf.Bytes c) := fun c hc => ⟨HV.out.dec c hc, frms_mem_bytes cs rest HBE.out c hc⟩
        obtain ⟨ds, hds, -⟩ := vld_app (ys.map encX) qs rest cs (good_encs ys (fun y hy => (HY.out y hy).1)) HV.out
        have HDS := Lib.hid hds
        clear HVE hds
        go_wp2_with fail
        refine (bkRecords_any wr.heap.size RB R a6 ga6 _ cs F6 _ H6.out.bk (by have := frms_count cs; have := HLE.out; omega) (fun c hc => ⟨(HCS.out c hc).1, by have := frms_each_len cs c hc; have := HLE.out; omega⟩)).mono ?_
        rintro e w7 ⟨vl, vlc, xs, rfl, hxs, hrc, _, hb7⟩
        have HXS := Lib.hid hxs
        have HRC := Lib.hid hrc.at_
        have H7 := Lib.hid (H6.out.below hb7)
        obtain ⟨m, hm⟩ : ∃ m, cs.length = m := ⟨_, rfl⟩
        rw [hm]
        have HM := Lib.hid hm
        have HXL : Hid (xs.length = m) := by show _ = _; rw [xs_len hxs, List.length_map, hm]
        have hmn : n ≤ m := by rw [← hm, HDS.out, List.length_append, List.length_map, HN.out]; omega
        have hmm : m ≤ 20000 := by have := frms_count cs; have := HLE.out; omega
        clear hxs hrc hb7 hm H6
        go_wp2_with fail
        refine (disk_read_on wr.heap.size R a6 _ _ H7.out.bk.dsk rfl).mono ?_
        rintro e w8 ⟨a8, c8, rfl, hs8, _, hb8⟩
        have H8 := Lib.hid (H7.out.below hb8)
        have HRC8 := Lib.hid (HRC.out.below hb8)
        have HX8 : Hid (SeenAt w8 a8 c8 (frms cs)) := hs8
        obtain ⟨z, hz⟩ : ∃ z, (frms cs).length = z := ⟨_, rfl⟩
        dsimp only
        rw [hz]
        have HZ := Lib.hid hz
        clear hs8 hb8 hz HRC H7
        go_upto_region 17 with fail
        have H9 := Lib.hid (H8.out.below (Below.drew (Below.refl _ w8)))
        have HRC9 := Lib.hid (HRC8.out.below (Below.drew (Below.refl _ w8)))
        have HX9 := Lib.hid (HX8.out.below (Below.drew (Below.refl _ w8)))
        have HBK := Lib.hid (encs_back cs xs HXS.out HCS.out)
        have HSM := Lib.hid (decs_small cs xs HXS.out HCS.out)
        have HFF : Hid (((strB (frms cs)).toList == (strB (frms cs)).toList) = true) := by show _ = _; simp
        have ST := Lib.hid (fun (w' : World) x c (h : SeenAt w' x c (frms cs)) => str_at h HZ.out)
        have HTKL : Hid ((xs.take n).length = n) := by show _ = _; rw [List.length_take, HXL.out]; omega
        have HTKE : Hid ((xs.take n).map encX = ys.map encX) := by
          show _ = _
          rw [List.map_take, HBK.out, HDS.out]
          exact List.take_left' (by rw [List.length_map]; exact HN.out)
        have HALE : Hid ((frms (xs.map encX)).length ≤ 900000000) := by have := HLE.out; show _ ≤ _; rw [HBK.out]; omega
        have hdm : decide ((n : Int) ≤ (m : Int)) = true := by simp; omega
        have hdm' : decide (n ≤ m) = true := by simp; omega
        have hvl := HRC9.out.le
        have HVL : Hid (n ≤ vlc) := by have := HXL.out; show _ ≤ _; omega
        generalize strB (frms cs) = st at *
        clear H8 HRC8 HX8
        refine wp_region_ext (by kernel_rfl) ?_
        generalize w8.drew = w9 at *
        refine wpAnyH_one (i := 0) rfl (by kernel_rfl) (by rfl) (fun K hK => ?_)
        go_simp
        go_at_call 19
        refine (awake9 _).mono ?_
        rintro e w10 ⟨rfl, hb10⟩
        have H10 := Lib.hid (H9.out.below hb10)
        have HRC10 := Lib.hid (HRC9.out.below hb10)
        have HX10 := Lib.hid (HX9.out.below hb10)
        clear H9 HRC9 HX9
        refine hK.out _ _ hb10 ?_
        clear hK K
        clear hb10
        refine wpAnyH_tk (i := 1) 75 (v := ?_) rfl rfl (by kernel_rfl) (by kernel_rfl) (by kernel_rfl) (by rfl) (fun wq hwq => ?_) ?_
        rotate_left
        · (go_simp <;> with_reducible rfl)
        simp only [List.setIfInBounds_toArray, List.set_cons_zero, List.set_cons_succ]
        refine wpAnyH_tk (i := 2) 76 (v := ?_) rfl rfl (by kernel_rfl) (by kernel_rfl) (by kernel_rfl) (by rfl) (fun wq hwq => ?_) ?_
        rotate_left
        · (go_simp <;> with_reducible rfl)
        simp only [List.setIfInBounds_toArray, List.set_cons_zero, List.set_cons_succ]
        refine wpAnyH_tk (i := 3) 77 (v := ?_) rfl rfl (by kernel_rfl) (by kernel_rfl) (by kernel_rfl) (by rfl) (fun wq hwq => ?_) ?_
        rotate_left
        · (go_simp <;> with_reducible rfl)
        simp only [List.setIfInBounds_toArray, List.set_cons_zero, List.set_cons_succ]
        refine wpAnyH_tk (i := 4) 78 (v := ?_) rfl rfl (by kernel_rfl) (by kernel_rfl) (by kernel_rfl) (by rfl) (fun wq hwq => ?_) ?_
        rotate_left
        · (go_simp <;> with_reducible rfl)
        simp only [List.setIfInBounds_toArray, List.set_cons_zero, List.set_cons_succ]
        refine wpAnyH_tk (i := 5) 79 (v := ?_) rfl rfl (by kernel_rfl) (by kernel_rfl) (by kernel_rfl) (by rfl) (fun wq hwq => ?_) ?_
        rotate_left
        · (go_simp <;> with_reducible rfl)
        simp only [List.setIfInBounds_toArray, List.set_cons_zero, List.set_cons_succ]
        refine wpAnyH_tk (i := 6) 80 (v := ?_) rfl rfl (by kernel_rfl) (by kernel_rfl) (by kernel_rfl) (by rfl) (fun wq hwq => ?_) ?_
        rotate_left
        · (go_simp <;> with_reducible rfl)
        simp only [List.setIfInBounds_toArray, List.set_cons_zero, List.set_cons_succ]
        refine wpAnyH_tk (i := 7) 81 (v := ?_) rfl rfl (by kernel_rfl) (by kernel_rfl) (by kernel_rfl) (by rfl) (fun wq hwq => ?_) ?_
        rotate_left
        · (go_simp <;> with_reducible rfl)
        simp only [List.setIfInBounds_toArray, List.set_cons_zero, List.set_cons_succ]
        refine wpAnyH_tk (i := 8) 82 (v := ?_) rfl rfl (by kernel_rfl) (by kernel_rfl) (by kernel_rfl) (by rfl) (fun wq hwq => ?_) ?_
        rotate_left
        · (go_simp <;> with_reducible rfl)
        simp only [List.setIfInBounds_toArray, List.set_cons_zero, List.set_cons_succ]
        refine wpAnyH_tk (i := 9) 83 (v := ?_) rfl rfl (by kernel_rfl) (by kernel_rfl) (by kernel_rfl) (by rfl) (fun wq hwq => ?_) ?_
        rotate_left
        · (go_simp <;> with_reducible rfl)
        simp only [List.setIfInBounds_toArray, List.set_cons_zero, List.set_cons_succ]
        refine wpAnyH_tk (i := 10) 84 (v := ?_) rfl rfl (by kernel_rfl) (by kernel_rfl) (by kernel_rfl) (by rfl) (fun wq hwq => ?_) ?_
        rotate_left
        · (have hx := hdm; go_simp <;> with_reducible rfl)
        simp only [List.setIfInBounds_toArray, List.set_cons_zero, List.set_cons_succ]
        refine wpAnyH_tk (i := 11) 85 (v := ?_) rfl rfl (by kernel_rfl) (by kernel_rfl) (by kernel_rfl) (by rfl) (fun wq hwq => ?_) ?_
        rotate_left
        · (go_simp <;> with_reducible rfl)
        simp only [List.setIfInBounds_toArray, List.set_cons_zero, List.set_cons_succ]
        refine wpAnyH_tk (i := 12) 86 (v := ?_) rfl rfl (by kernel_rfl) (by kernel_rfl) (by kernel_rfl) (by rfl) (fun wq hwq => ?_) ?_
        rotate_left
        · (go_simp <;> with_reducible rfl)
        simp only [List.setIfInBounds_toArray, List.set_cons_zero, List.set_cons_succ]
        refine wpAnyH_tk (i := 13) 87 (v := ?_) rfl rfl (by kernel_rfl) (by kernel_rfl) (by kernel_rfl) (by rfl) (fun wq hwq => ?_) ?_
        rotate_left
        · (go_simp <;> with_reducible rfl)
        simp only [List.setIfInBounds_toArray, List.set_cons_zero, List.set_cons_succ]
        refine wpAnyH_tk (i := 14) 88 (v := ?_) rfl rfl (by kernel_rfl) (by kernel_rfl) (by kernel_rfl) (by rfl) (fun wq hwq => ?_) ?_
        rotate_left
        · (go_simp <;> with_reducible rfl)
        simp only [List.setIfInBounds_toArray, List.set_cons_zero, List.set_cons_succ]
        refine wpAnyH_tk (i := 15) 89 (v := ?_) rfl rfl (by kernel_rfl) (by kernel_rfl) (by kernel_rfl) (by rfl) (fun wq hwq => ?_) ?_
        rotate_left
        · (go_simp <;> with_reducible rfl)
        simp only [List.setIfInBounds_toArray, List.set_cons_zero, List.set_cons_succ]
        refine wpAnyH_tk (i := 16) 90 (v := ?_) rfl rfl (by kernel_rfl) (by kernel_rfl) (by kernel_rfl) (by rfl) (fun wq hwq => ?_) ?_
        rotate_left
        · (have hx := slice_toR vl m vlc n HVL.out wq; go_simp <;> with_reducible rfl)
        simp only [List.setIfInBounds_toArray, List.set_cons_zero, List.set_cons_succ]
        refine wpAnyH_tk (i := 17) 91 (v := ?_) rfl rfl (by kernel_rfl) (by kernel_rfl) (by kernel_rfl) (by rfl) (fun wq hwq => ?_) ?_
        rotate_left
        · (go_simp <;> with_reducible rfl)
        simp only [List.setIfInBounds_toArray, List.set_cons_zero, List.set_cons_succ]
        refine wpAnyH_one (i := 18) rfl (by kernel_rfl) (by rfl) (fun K hK => ?_)
        go_simp
        refine (sameRecs_any _ _ _ _ n (xs.take n) ys _ HTKL.out (HRC10.out.take n) HN.out (HGR.out.below H10.out.bel) (fun x hx => HSM.out x (List.mem_of_mem_take hx)) (fun y hy => (HY.out y hy).1.small)).mono ?_
        rintro e w11 ⟨rfl, hb11⟩
        rw [decide_eq_true HTKE.out]
        have H11 := Lib.hid (H10.out.below hb11)
        have HRC11 := Lib.hid (HRC10.out.below hb11)
        have HX11 := Lib.hid (HX10.out.below hb11)
        clear H10 HRC10 HX10
        refine hK.out _ _ hb11 ?_
        clear hK K
        clear hb11
        refine wpAnyH_tk (i := 19) 93 (v := ?_) rfl rfl (by kernel_rfl) (by kernel_rfl) (by kernel_rfl) (by rfl) (fun wq hwq => ?_) ?_
        rotate_left
        · (go_simp <;> with_reducible rfl)
        simp only [List.setIfInBounds_toArray, List.set_cons_zero, List.set_cons_succ]
        refine wpAnyH_tk (i := 20) 94 (v := ?_) rfl rfl (by kernel_rfl) (by kernel_rfl) (by kernel_rfl) (by rfl) (fun wq hwq => ?_) ?_
        rotate_left
        · (go_simp <;> with_reducible rfl)
        simp only [List.setIfInBounds_toArray, List.set_cons_zero, List.set_cons_succ]
        refine wpAnyH_tk (i := 21) 95 (v := ?_) rfl rfl (by kernel_rfl) (by kernel_rfl) (by kernel_rfl) (by rfl) (fun wq hwq => ?_) ?_
        rotate_left
        · (go_simp <;> with_reducible rfl)
        simp only [List.setIfInBounds_toArray, List.set_cons_zero, List.set_cons_succ]
        refine wpAnyH_tk (i := 22) 96 (v := ?_) rfl rfl (by kernel_rfl) (by kernel_rfl) (by kernel_rfl) (by rfl) (fun wq hwq => ?_) ?_
        rotate_left
        · (have hx := ST.out wq _ _ (HX11.out.below hwq); go_simp <;> with_reducible rfl)
        simp only [List.setIfInBounds_toArray, List.set_cons_zero, List.set_cons_succ]
        refine wpAnyH_tk (i := 23) 97 (v := ?_) rfl rfl (by kernel_rfl) (by kernel_rfl) (by kernel_rfl) (by rfl) (fun wq hwq => ?_) ?_
        rotate_left
        · (go_simp <;> with_reducible rfl)
        simp only [List.setIfInBounds_toArray, List.set_cons_zero, List.set_cons_succ]
        refine wpAnyH_one (i := 24) rfl (by kernel_rfl) (by rfl) (fun K hK => ?_)
        go_simp
        refine (lawAll_any _ _ m xs _ HXL.out HRC11.out (fun x hx => (HSM.out x hx).med) HALE.out).mono ?_
        rw [HBK.out]
        rintro e w12 ⟨g12, c12, rfl, ho12, hb12⟩
        have H12 := Lib.hid (H11.out.below hb12)
        have HO12 := Lib.hid ho12.seenAt
        rw [HZ.out]
        refine hK.out _ _ hb12 ?_
        clear hK K
        clear ho12 hb12 H11 HRC11 HX11
        refine wpAnyH_tk (i := 25) 99 (v := ?_) rfl rfl (by kernel_rfl) (by kernel_rfl) (by kernel_rfl) (by rfl) (fun wq hwq => ?_) ?_
        rotate_left
        · (have hx := ST.out wq _ _ (HO12.out.below hwq); go_simp <;> with_reducible rfl)
        simp only [List.setIfInBounds_toArray, List.set_cons_zero, List.set_cons_succ]
        refine wpAnyH_tk (i := 26) 100 (v := ?_) rfl rfl (by kernel_rfl) (by kernel_rfl) (by kernel_rfl) (by rfl) (fun wq hwq => ?_) ?_
        rotate_left
        · (have hx := HFF.out; go_simp <;> with_reducible rfl)
        simp only [List.setIfInBounds_toArray, List.set_cons_zero, List.set_cons_succ]
        refine wpAnyH_tk (i := 27) 101 (v := ?_) rfl rfl (by kernel_rfl) (by kernel_rfl) (by kernel_rfl) (by rfl) (fun wq hwq => ?_) ?_
        rotate_left
        · (go_simp <;> with_reducible rfl)
        simp only [List.setIfInBounds_toArray, List.set_cons_zero, List.set_cons_succ]
        refine wpAnyH_tk (i := 28) 4 (v := ?_) rfl rfl (by kernel_rfl) (by kernel_rfl) (by kernel_rfl) (by rfl) (fun wq hwq => ?_) ?_
        rotate_left
        · (go_simp <;> with_reducible rfl)
        simp only [List.setIfInBounds_toArray, List.set_cons_zero, List.set_cons_succ]
        refine wpAnyH_done (by kernel_rfl) ?_ _
        refine NoPanic.normal ?_
        have EF : Hid (Below w.heap.size w w12) := Ext.trans HB.out H12.out.bel
        go_wp2
        go_ret
        exact ⟨rfl, EF.out⟩
      · skip
        go_upto_if 45 with fail
        go_cut [1, 45] (fun s _ wx => Clamped9 w a1 cap1 s ∧ wx = wr)
        case first =>
          by_cases h500 : 300 < len1
          · have d1 : decide ((300 : Int) < (len1 : Int)) = true := by simp; omega
            obtain ⟨b, off, e, _⟩ := HS1.out.cell 0 (by rw [HL1.out]; omega)
            subst e
            have hcc : 300 ≤ cap1 := by omega
            have hsl := slice_toD b off len1 cap1 300 hcc wr
            have hsl' := slice_toD' b off len1 cap1 300 hcc wr
            have HTK := Lib.hid (HS1.out.take 300)
            have HTL : Hid ((m1.take 300).length = 300) := by show _ = _; rw [List.length_take, HL1.out]; omega
            go_wp2_with fail
            go_meet
            exact ⟨⟨300, m1.take 300, rfl, by omega, HTL.out, HTK.out⟩, rfl⟩
          · have d1 : decide ((300 : Int) < (len1 : Int)) = false := by simp; omega
            go_wp2_with fail
            go_meet
            exact ⟨⟨len1, m1, rfl, by omega, HL1.out, HS1.out⟩, rfl⟩
        case rest =>
        obtain ⟨⟨l, qs, rfl, hl5, hl, hs⟩, hw⟩ := hcut
        obtain rfl := hw.symm
        have HL := Lib.hid hl
        have HS := Lib.hid hs
        clear hl hs
        go_wp2_with fail
        refine (disk_new 1048576 _).mono ?_
        rintro e w2 ⟨R, rfl, -, hd2, hb2⟩
        rw [show roomOf 1048576 = 1048576 by decide] at hd2
        have HD2 := Lib.hid hd2
        have E2 : Hid (Below wr.heap.size wr w2) := hb2
        have HGR := Lib.hid HO.out.at_
        clear hd2 hb2
        go_wp2_with fail
        refine (lawAll_any _ _ n ys _ HN.out (HGR.out.below E2.out) (fun y hy => (HY.out y hy).1.small.med) (by have := good_frms ys (fun y hy => (HY.out y hy).1); rw [HN.out] at this; omega)).mono ?_
        rintro e w3 ⟨g3, c3, rfl, ho3, hb3⟩
        have HFB := Lib.hid (good_bytes ys (fun y hy => (HY.out y hy).1))
        have HFL : Hid ((frms (ys.map encX)).length ≤ 18720) := by have := good_frms ys (fun y hy => (HY.out y hy).1); rw [HN.out] at this; show _ ≤ _; omega
        have HD3 := Lib.hid (HD2.out.below hb3)
        have E3 := Lib.hid (E2.out.trans (hb3.mono E2.out.size))
        have HOB := Lib.hid ho3
        have HQ3 := Lib.hid (HS.out.below (Ext.trans HB.out E3.out))
        have hR2 := HD2.out.lt
        have hg3 := ho3.lt
        obtain ⟨q, hq⟩ : ∃ q, (frms (ys.map encX)).length = q := ⟨_, rfl⟩
        rw [hq]
        have hq2 : q ≤ 18720 := by rw [← hq]; exact HFL.out
        have HQ := Lib.hid hq
        clear ho3 hb3 hq HD2
        go_wp2_with (at_builtin; refine wpList_appB rfl (.tmp 51) (.tmp 52) rfl w2.heap.size g3 c3 (frms (ys.map encX)) qs (by rw [HQ.out]; rfl) HOB.out _ cap1 (by rw [HL.out]; rfl) HQ3.out (by rw [HQ.out, HL.out]; omega) (by omega) ?_; intro g4 c4 w4 ho4 chg4 hg4; rw [show (frms (ys.map encX) ++ qs).length = q + l by rw [List.length_append, HQ.out, HL.out]]; have HO4B := Lib.hid ho4; have HD4 := Lib.hid (HD3.out.chg chg4 (by simp; omega) (by simp [blk])); have E4 : Hid (Below wr.heap.size wr w4) := chg4.below E3.out E3.out.size (by have := E2.out.size; simp; omega); clear ho4 chg4 hg4)
        have HPL : Hid ((frms (ys.map encX) ++ qs).length = q + l) := by show _ = _; rw [List.length_append, HQ.out, HL.out]
        have HPB : Hid (Gf.Bytes (frms (ys.map encX) ++ qs)) := bytes_app' HFB.out HS.out.byte
        have hg4 := HO4B.out.lt
        refine (disk_append wr.heap.size R none ⟨[], 1048576, false, false, 0⟩ _ c4 (q + l) (frms (ys.map encX) ++ qs) _ HD4.out HPL.out HO4B.out.seenAt (fun _ g hg => by simp [blk] at hg; omega)).mono ?_
        rw [wrt_new _ (by rw [HPL.out]; omega)]
        rintro e w5 ⟨rfl, a5, hd5, hg5, hw5⟩
        have HD5 := Lib.hid hd5
        have E5 : Hid (Below wr.heap.size wr w5) := hg5.below E4.out E4.out.size (by simp [blk]; exact HD4.out.base)
        clear hd5 hg5 hw5 HO4B HD4 HD3 HOB HFB HFL E4 E3
        go_wp2_with fail
        refine (bkOpen_any wr.heap.size R a5 _ _ HD5.out rfl rfl).mono ?_
        rintro e w6 ⟨RB, a6, ga6, cs, rest, F6, rfl, hv6, hk6, hm6⟩
        have HV := Lib.hid hv6
        have h6 := hm6.below E5.out (fun g hg => by rcases List.mem_cons.mp hg with rfl | hg; exact HD5.out.base; exact (HD5.out.blkLt hg).1)
        have H6 : Hid (St wr w6 RB R a6 ga6 ⟨frms cs, 1048576, false, false, 0⟩ cs F6) := ⟨hk6, h6.1⟩
        clear hv6 hk6 hm6 h6 HD5 E5
        have HVE := HV.out.eq
        dsimp only at HVE
        have HBE : Hid (Gf.Bytes (frms cs ++ rest)) := by rw [← HVE]; exact HPB.out
        have HLE : Hid ((frms cs).length ≤ 20000) := by
          have := congrArg List.length HVE
          rw [HPL.out, List.length_append] at this
          show _ ≤ _
          omega
        have HCS : Hid (∀ c ∈ cs, decB c = true ∧ Gf.Bytes c) := fun c hc => ⟨HV.out.dec c hc, frms_mem_bytes cs rest HBE.out c hc⟩
        obtain ⟨ds, hds, -⟩ := vld_app (ys.map encX) qs rest cs (good_encs ys (fun y hy => (HY.out y hy).1)) HV.out
        have HDS := Lib.hid hds
        clear HVE hds
        go_wp2_with fail
        refine (bkRecords_any wr.heap.size RB R a6 ga6 _ cs F6 _ H6.out.bk (by have := frms_count cs; have := HLE.out; omega) (fun c hc => ⟨(HCS.out c hc).1, by have := frms_each_len cs c hc; have := HLE.out; omega⟩)).mono ?_
        rintro e w7 ⟨vl, vlc, xs, rfl, hxs, hrc, _, hb7⟩
        have HXS := Lib.hid hxs
        have HRC := Lib.hid hrc.at_
        have H7 := Lib.hid (H6.out.below hb7)
        obtain ⟨m, hm⟩ : ∃ m, cs.length = m := ⟨_, rfl⟩
        rw [hm]
        have HM := Lib.hid hm
        have HXL : Hid (xs.length = m) := by show _ = _; rw [xs_len hxs, List.length_map, hm]
        have hmn : n ≤ m := by rw [← hm, HDS.out, List.length_append, List.length_map, HN.out]; omega
        have hmm : m ≤ 20000 := by have := frms_count cs; have := HLE.out; omega
        clear hxs hrc hb7 hm H6
        go_wp2_with fail
        refine (disk_read_on wr.heap.size R a6 _ _ H7.out.bk.dsk rfl).mono ?_
        rintro e w8 ⟨a8, c8, rfl, hs8, _, hb8⟩
        have H8 := Lib.hid (H7.out.below hb8)
        have HRC8 := Lib.hid (HRC.out.below hb8)
        have HX8 : Hid (SeenAt w8 a8 c8 (frms cs)) := hs8
        obtain ⟨z, hz⟩ : ∃ z, (frms cs).length = z := ⟨_, rfl⟩
        dsimp only
        rw [hz]
        have HZ := Lib.hid hz
        clear hs8 hb8 hz HRC H7
        go_upto_region 17 with fail
        have H9 := Lib.hid (H8.out.below (Below.drew (Below.refl _ w8)))
        have HRC9 := Lib.hid (HRC8.out.below (Below.drew (Below.refl _ w8)))
        have HX9 := Lib.hid (HX8.out.below (Below.drew (Below.refl _ w8)))
        have HBK := Lib.hid (encs_back cs xs HXS.out HCS.out)
        have HSM := Lib.hid (decs_small cs xs HXS.out HCS.out)
        have HFF : Hid (((strB (frms cs)).toList == (strB (frms cs)).toList) = true) := by show _ = _; simp
        have ST := Lib.hid (fun (w' : World) x c (h : SeenAt w' x c (frms cs)) => str_at h HZ.out)
        have HTKL : Hid ((xs.take n).length = n) := by show _ = _; rw [List.length_take, HXL.out]; omega
        have HTKE : Hid ((xs.take n).map encX = ys.map encX) := by
          show _ = _
          rw [List.map_take, HBK.out, HDS.out]
          exact List.take_left' (by rw [List.length_map]; exact HN.out)
        have HALE : Hid ((frms (xs.map encX)).length ≤ 900000000) := by have := HLE.out; show _ ≤ _; rw [HBK.out]; omega
        have hdm : decide ((n : Int) ≤ (m : Int)) = true := by simp; omega
        have hdm' : decide (n ≤ m) = true := by simp; omega
        have hvl := HRC9.out.le
        have HVL : Hid (n ≤ vlc) := by have := HXL.out; show _ ≤ _; omega
        generalize strB (frms cs) = st at *
        clear H8 HRC8 HX8
        refine wp_region_ext (by kernel_rfl) ?_
        generalize w8.drew = w9 at *
        refine wpAnyH_one (i := 0) rfl (by kernel_rfl) (by rfl) (fun K hK => ?_)
        go_simp
        go_at_call 19
        refine (awake9 _).mono ?_
        rintro e w10 ⟨rfl, hb10⟩
        have H10 := Lib.hid (H9.out.below hb10)
        have HRC10 := Lib.hid (HRC9.out.below hb10)
        have HX10 := Lib.hid (HX9.out.below hb10)
        clear H9 HRC9 HX9
        refine hK.out _ _ hb10 ?_
        clear hK K
        clear hb10
        refine wpAnyH_tk (i := 1) 75 (v := ?_) rfl rfl (by kernel_rfl) (by kernel_rfl) (by kernel_rfl) (by rfl) (fun wq hwq => ?_) ?_
        rotate_left
        · (go_simp <;> with_reducible rfl)
        simp only [List.setIfInBounds_toArray, List.set_cons_zero, List.set_cons_succ]
        refine wpAnyH_tk (i := 2) 76 (v := ?_) rfl rfl (by kernel_rfl) (by kernel_rfl) (by kernel_rfl) (by rfl) (fun wq hwq => ?_) ?_
        rotate_left
        · (go_simp <;> with_reducible rfl)
        simp only [List.setIfInBounds_toArray, List.set_cons_zero, List.set_cons_succ]
        refine wpAnyH_tk (i := 3) 77 (v := ?_) rfl rfl (by kernel_rfl) (by kernel_rfl) (by kernel_rfl) (by rfl) (fun wq hwq => ?_) ?_
        rotate_left
        · (go_simp <;> with_reducible rfl)
        simp only [List.setIfInBounds_toArray, List.set_cons_zero, List.set_cons_succ]
        refine wpAnyH_tk (i := 4) 78 (v := ?_) rfl rfl (by kernel_rfl) (by kernel_rfl) (by kernel_rfl) (by rfl) (fun wq hwq => ?_) ?_
        rotate_left
        · (go_simp <;> with_reducible rfl)
        simp only [List.setIfInBounds_toArray, List.set_cons_zero, List.set_cons_succ]
        refine wpAnyH_tk (i := 5) 79 (v := ?_) rfl rfl (by kernel_rfl) (by kernel_rfl) (by kernel_rfl) (by rfl) (fun wq hwq => ?_) ?_
        rotate_left
        · (go_simp <;> with_reducible rfl)
        simp only [List.setIfInBounds_toArray, List.set_cons_zero, List.set_cons_succ]
        refine wpAnyH_tk (i := 6) 80 (v := ?_) rfl rfl (by kernel_rfl) (by kernel_rfl) (by kernel_rfl) (by rfl) (fun wq hwq => ?_) ?_
        rotate_left
        · (go_simp <;> with_reducible rfl)
        simp only [List.setIfInBounds_toArray, List.set_cons_zero, List.set_cons_succ]
        refine wpAnyH_tk (i := 7) 81 (v := ?_) rfl rfl (by kernel_rfl) (by kernel_rfl) (by kernel_rfl) (by rfl) (fun wq hwq => ?_) ?_
        rotate_left
        · (go_simp <;> with_reducible rfl)
        simp only [List.setIfInBounds_toArray, List.set_cons_zero, List.set_cons_succ]
        refine wpAnyH_tk (i := 8) 82 (v := ?_) rfl rfl (by kernel_rfl) (by kernel_rfl) (by kernel_rfl) (by rfl) (fun wq hwq => ?_) ?_
        rotate_left
        · (go_simp <;> with_reducible rfl)
        simp only [List.setIfInBounds_toArray, List.set_cons_zero, List.set_cons_succ]
        refine wpAnyH_tk (i := 9) 83 (v := ?_) rfl rfl (by kernel_rfl) (by kernel_rfl) (by kernel_rfl) (by rfl) (fun wq hwq => ?_) ?_
        rotate_left
        · (go_simp <;> with_reducible rfl)
        simp only [List.setIfInBounds_toArray, List.set_cons_zero, List.set_cons_succ]
        refine wpAnyH_tk (i := 10) 84 (v := ?_) rfl rfl (by kernel_rfl) (by kernel_rfl) (by kernel_rfl) (by rfl) (fun wq hwq => ?_) ?_
        rotate_left
        · (have hx := hdm; go_simp <;> with_reducible rfl)
        simp only [List.setIfInBounds_toArray, List.set_cons_zero, List.set_cons_succ]
        refine wpAnyH_tk (i := 11) 85 (v := ?_) rfl rfl (by kernel_rfl) (by kernel_rfl) (by kernel_rfl) (by rfl) (fun wq hwq => ?_) ?_
        rotate_left
        · (go_simp <;> with_reducible rfl)
        simp only [List.setIfInBounds_toArray, List.set_cons_zero, List.set_cons_succ]
        refine wpAnyH_tk (i := 12) 86 (v := ?_) rfl rfl (by kernel_rfl) (by kernel_rfl) (by kernel_rfl) (by rfl) (fun wq hwq => ?_) ?_
        rotate_left
        · (go_simp <;> with_reducible rfl)
        simp only [List.setIfInBounds_toArray, List.set_cons_zero, List.set_cons_succ]
        refine wpAnyH_tk (i := 13) 87 (v := ?_) rfl rfl (by kernel_rfl) (by kernel_rfl) (by kernel_rfl) (by rfl) (fun wq hwq => ?_) ?_
        rotate_left
        · (go_simp <;> with_reducible rfl)
        simp only [List.setIfInBounds_toArray, List.set_cons_zero, List.set_cons_succ]
        refine wpAnyH_tk (i := 14) 88 (v := ?_) rfl rfl (by kernel_rfl) (by kernel_rfl) (by kernel_rfl) (by rfl) (fun wq hwq => ?_) ?_
        rotate_left
        · (go_simp <;> with_reducible rfl)
        simp only [List.setIfInBounds_toArray, List.set_cons_zero, List.set_cons_succ]
        refine wpAnyH_tk (i := 15) 89 (v := ?_) rfl rfl (by kernel_rfl) (by kernel_rfl) (by kernel_rfl) (by rfl) (fun wq hwq => ?_) ?_
        rotate_left
        · (go_simp <;> with_reducible rfl)
        simp only [List.setIfInBounds_toArray, List.set_cons_zero, List.set_cons_succ]
        refine wpAnyH_tk (i := 16) 90 (v := ?_) rfl rfl (by kernel_rfl) (by kernel_rfl) (by kernel_rfl) (by rfl) (fun wq hwq => ?_) ?_
        rotate_left
        · (have hx := slice_toR vl m vlc n HVL.out wq; go_simp <;> with_reducible rfl)
        simp only [List.setIfInBounds_toArray, List.set_cons_zero, List.set_cons_succ]
        refine wpAnyH_tk (i := 17) 91 (v := ?_) rfl rfl (by kernel_rfl) (by kernel_rfl) (by kernel_rfl) (by rfl) (fun wq hwq => ?_) ?_
        rotate_left
        · (go_simp <;> with_reducible rfl)
        simp only [List.setIfInBounds_toArray, List.set_cons_zero, List.set_cons_succ]
        refine wpAnyH_one (i := 18) rfl (by kernel_rfl) (by rfl) (fun K hK => ?_)
        go_simp
        refine (sameRecs_any _ _ _ _ n (xs.take n) ys _ HTKL.out (HRC10.out.take n) HN.out (HGR.out.below H10.out.bel) (fun x hx => HSM.out x (List.mem_of_mem_take hx)) (fun y hy => (HY.out y hy).1.small)).mono ?_
        rintro e w11 ⟨rfl, hb11⟩
        rw [decide_eq_true HTKE.out]
        have H11 := Lib.hid (H10.out.below hb11)
        have HRC11 := Lib.hid (HRC10.out.below hb11)
        have HX11 := Lib.hid (HX10.out.below hb11)
        clear H10 HRC10 HX10
        refine hK.out _ _ hb11 ?_
        clear hK K
        clear hb11
        refine wpAnyH_tk (i := 19) 93 (v := ?_) rfl rfl (by kernel_rfl) (by kernel_rfl) (by kernel_rfl) (by rfl) (fun wq hwq => ?_) ?_
        rotate_left
        · (go_simp <;> with_reducible rfl)
        simp only [List.setIfInBounds_toArray, List.set_cons_zero, List.set_cons_succ]
        refine wpAnyH_tk (i := 20) 94 (v := ?_) rfl rfl (by kernel_rfl) (by kernel_rfl) (by kernel_rfl) (by rfl) (fun wq hwq => ?_) ?_
        rotate_left
        · (go_simp <;> with_reducible rfl)
        simp only [List.setIfInBounds_toArray, List.set_cons_zero, List.set_cons_succ]
        refine wpAnyH_tk (i := 21) 95 (v := ?_) rfl rfl (by kernel_rfl) (by kernel_rfl) (by kernel_rfl) (by rfl) (fun wq hwq => ?_) ?_
        rotate_left
        · (go_simp <;> with_reducible rfl)
        simp only [List.setIfInBounds_toArray, List.set_cons_zero, List.set_cons_succ]
        refine wpAnyH_tk (i := 22) 96 (v := ?_) rfl rfl (by kernel_rfl) (by kernel_rfl) (by kernel_rfl) (by rfl) (fun wq hwq => ?_) ?_
        rotate_left
        · (have hx := ST.out wq _ _ (HX11.out.below hwq); go_simp <;> with_reducible rfl)
        simp only [List.setIfInBounds_toArray, List.set_cons_zero, List.set_cons_succ]
        refine wpAnyH_tk (i := 23) 97 (v := ?_) rfl rfl (by kernel_rfl) (by kernel_rfl) (by kernel_rfl) (by rfl) (fun wq hwq => ?_) ?_
        rotate_left
        · (go_simp <;> with_reducible rfl)
        simp only [List.setIfInBounds_toArray, List.set_cons_zero, List.set_cons_succ]
        refine wpAnyH_one (i := 24) rfl (by kernel_rfl) (by rfl) (fun K hK => ?_)
        go_simp
        refine (lawAll_any _ _ m xs _ HXL.out HRC11.out (fun x hx => (HSM.out x hx).med) HALE.out).mono ?_
        rw [HBK.out]
        rintro e w12 ⟨g12, c12, rfl, ho12, hb12⟩
        have H12 := Lib.hid (H11.out.below hb12)
        have HO12 := Lib.hid ho12.seenAt
        rw [HZ.out]
        refine hK.out _ _ hb12 ?_
        clear hK K
        clear ho12 hb12 H11 HRC11 HX11
        refine wpAnyH_tk (i := 25) 99 (v := ?_) rfl rfl (by kernel_rfl) (by kernel_rfl) (by kernel_rfl) (by rfl) (fun wq hwq => ?_) ?_
        rotate_left
        · (have hx := ST.out wq _ _ (HO12.out.below hwq); go_simp <;> with_reducible rfl)
        simp only [List.setIfInBounds_toArray, List.set_cons_zero, List.set_cons_succ]
        refine wpAnyH_tk (i := 26) 100 (v := ?_) rfl rfl (by kernel_rfl) (by kernel_rfl) (by kernel_rfl) (by rfl) (fun wq hwq => ?_) ?_
        rotate_left
        · (have hx := HFF.out; go_simp <;> with_reducible rfl)
        simp only [List.setIfInBounds_toArray, List.set_cons_zero, List.set_cons_succ]
        refine wpAnyH_tk (i := 27) 101 (v := ?_) rfl rfl (by kernel_rfl) (by kernel_rfl) (by kernel_rfl) (by rfl) (fun wq hwq => ?_) ?_
        rotate_left
        · (go_simp <;> with_reducible rfl)
        simp only [List.setIfInBounds_toArray, List.set_cons_zero, List.set_cons_succ]
        refine wpAnyH_tk (i := 28) 4 (v := ?_) rfl rfl (by kernel_rfl) (by kernel_rfl) (by kernel_rfl) (by rfl) (fun wq hwq => ?_) ?_
        rotate_left
        · (go_simp <;> with_reducible rfl)
        simp only [List.setIfInBounds_toArray, List.set_cons_zero, List.set_cons_succ]
        refine wpAnyH_done (by kernel_rfl) ?_ _
        refine NoPanic.normal ?_
        have EF : Hid (Below w.heap.size w w12) := Ext.trans HB.out H12.out.bel
        go_wp2
        go_ret
        exact ⟨rfl, EF.out⟩

end Go.Proofs.Ytfcjnhcolkpppaa
