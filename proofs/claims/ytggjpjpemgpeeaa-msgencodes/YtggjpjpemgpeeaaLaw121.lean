/-
  The walk of the law MsgEncodes.
-/
import Derived.Test.YtggjpjpemgpeeaaAwake12
import Derived.Test.YtggjpjpemgpeeaaWalksH5
import Derived.Test.YtggjpjpemgpeeaaExt
namespace Go.Proofs.Ytggjpjpemgpeeaa
open Go.RowKit



set_option maxRecDepth 100000 in
set_option maxHeartbeats 4000000 in
theorem msgEncodes_walk (r : Rm) (w : World) (h : MsgAt w r) : Calls Try.prog 3 #[.agg r.cells] w fun e w' => e = .returned (.bool true) ∧ Below w.heap.size w w' := by
  show Calls Try.prog 3 #[.agg #[.int .i64 r.m.kind, .int .i64 r.m.frm, .int .i64 r.m.to, .int .i64 r.m.epoch, .int .i64 r.m.ent.seq, .int .i64 r.m.ent.client, .int .i64 r.m.ent.num, .int .i64 r.m.ent.op, .string (strB r.m.ent.key), .int .i64 r.m.ent.size, .int .u32 (r.m.ent.sum : Int), .slice r.loc r.el r.c, .int .i64 r.m.e, .slice r.fa r.fl r.fc, .slice r.ka r.kl r.kc, .int .i64 r.m.cep, .slice r.ma r.ml r.mc, .slice r.sa r.sl r.sc, .slice r.na r.nl r.nc]] w _
  have HX0 : Hid (Box (w.alloc (.cells #[.int .i64 r.m.kind, .int .i64 r.m.frm, .int .i64 r.m.to, .int .i64 r.m.epoch, .int .i64 r.m.ent.seq, .int .i64 r.m.ent.client, .int .i64 r.m.ent.num, .int .i64 r.m.ent.op, .string (strB r.m.ent.key), .int .i64 r.m.ent.size, .int .u32 (r.m.ent.sum : Int), .slice r.loc r.el r.c, .int .i64 r.m.e, .slice r.fa r.fl r.fc, .slice r.ka r.kl r.kc, .int .i64 r.m.cep, .slice r.ma r.ml r.mc, .slice r.sa r.sl r.sc, .slice r.na r.nl r.nc] 35)) w.heap.size r.cells) := box_new w r.cells 35 _ rfl
  have E0 : Hid (Ext w (w.alloc (.cells #[.int .i64 r.m.kind, .int .i64 r.m.frm, .int .i64 r.m.to, .int .i64 r.m.epoch, .int .i64 r.m.ent.seq, .int .i64 r.m.ent.client, .int .i64 r.m.ent.num, .int .i64 r.m.ent.op, .string (strB r.m.ent.key), .int .i64 r.m.ent.size, .int .u32 (r.m.ent.sum : Int), .slice r.loc r.el r.c, .int .i64 r.m.e, .slice r.fa r.fl r.fc, .slice r.ka r.kl r.kc, .int .i64 r.m.cep, .slice r.ma r.ml r.mc, .slice r.sa r.sl r.sc, .slice r.na r.nl r.nc] 35))) := below_one w _
  have HM0 := Lib.hid (h.below E0.out)
  clear h
  go_enter Try.func3, Try.ntmps3
  go_wp2_with (first | refine wpList_ldM _ _ _ rfl rfl rfl rfl HX0.out ?_ | (refine wpList_ung (by rfl) ?_; refine wpList_ldM _ _ _ rfl rfl rfl rfl HX0.out ?_))
  generalize (w.alloc (.cells #[.int .i64 r.m.kind, .int .i64 r.m.frm, .int .i64 r.m.to, .int .i64 r.m.epoch, .int .i64 r.m.ent.seq, .int .i64 r.m.ent.client, .int .i64 r.m.ent.num, .int .i64 r.m.ent.op, .string (strB r.m.ent.key), .int .i64 r.m.ent.size, .int .u32 (r.m.ent.sum : Int), .slice r.loc r.el r.c, .int .i64 r.m.e, .slice r.fa r.fl r.fc, .slice r.ka r.kl r.kc, .int .i64 r.m.cep, .slice r.ma r.ml r.mc, .slice r.sa r.sl r.sc, .slice r.na r.nl r.nc] 35)) = w0 at *
  refine (light_any r _).mono ?_
  rintro e w1 ⟨bb, rfl, hb⟩
  have E1 := Lib.hid (E0.out.trans hb)
  have HX1 := Lib.hid (HX0.out.below hb)
  have HM1 := Lib.hid (HM0.out.below hb)
  clear hb E0 HX0 HM0
  cases bb
  · go_wp2_with fail
    refine (awake12 _).mono ?_
    rintro e w2 ⟨rfl, hb⟩
    have E2 := Lib.hid (E1.out.trans hb)
    clear hb E1 
    go_wp2
    go_ret
    exact ⟨rfl, E2.out⟩
  · go_wp2_with (first | refine wpList_ldM _ _ _ rfl rfl rfl rfl HX1.out ?_ | (refine wpList_ung (by rfl) ?_; refine wpList_ldM _ _ _ rfl rfl rfl rfl HX1.out ?_))
    cases hs : sndMg r.m
    · have HN := Lib.hid hs
      clear hs
      refine (encMsg_no r _ HM1.out HN.out).mono ?_
      rintro e w2 ⟨rfl, hb⟩
      have E2 := Lib.hid (E1.out.trans hb)
      have HX2 := Lib.hid (HX1.out.below hb)
      have HM2 := Lib.hid (HM1.out.below hb)
      clear hb E1 HX1 HM1
      go_wp2_with (first | refine wpList_ldM _ _ _ rfl rfl rfl rfl HX2.out ?_ | (refine wpList_ung (by rfl) ?_; refine wpList_ldM _ _ _ rfl rfl rfl rfl HX2.out ?_))
      refine (refMsg_any r _ HM2.out).mono ?_
      rw [HN.out]
      rintro e w3 ⟨rfl, hb⟩
      have E3 := Lib.hid (E2.out.trans hb)
      have HX3 := Lib.hid (HX2.out.below hb)
      have HM3 := Lib.hid (HM2.out.below hb)
      clear hb E2 HX2 HM2
      go_wp2_with fail
      refine (awake12 _).mono ?_
      rintro e w4 ⟨rfl, hb⟩
      have E4 := Lib.hid (E3.out.trans hb)
      have HX4 := Lib.hid (HX3.out.below hb)
      have HM4 := Lib.hid (HM3.out.below hb)
      clear hb E3 HX3 HM3
      go_wp2_with (first | refine wpList_ldM _ _ _ rfl rfl rfl rfl HX4.out ?_ | (refine wpList_ung (by rfl) ?_; refine wpList_ldM _ _ _ rfl rfl rfl rfl HX4.out ?_))
      refine (msgSound_any r _ HM4.out).mono ?_
      rw [HN.out]
      rintro e w5 ⟨rfl, hb⟩
      have E5 := Lib.hid (E4.out.trans hb)
      clear hb E4 
      go_wp2
      go_ret
      exact ⟨rfl, E5.out⟩
    · have HY := Lib.hid hs
      have HSM := Lib.hid (sndMg_is hs)
      clear hs
      refine (encMsg_yes r _ HM1.out HY.out).mono ?_
      rintro e w2 ⟨g, c, rfl, ho, hb⟩
      have HO2 := Lib.hid ho.seenAt
      clear ho
      have E2 := Lib.hid (E1.out.trans hb)
      have HX2 := Lib.hid (HX1.out.below hb)
      have HM2 := Lib.hid (HM1.out.below hb)
      clear hb E1 HX1 HM1
      obtain ⟨q, hq⟩ : ∃ q, (encMg r.m).length = q := ⟨_, rfl⟩
      have HQ := Lib.hid hq
      rw [hq]
      clear hq
      go_wp2_with (first | refine wpList_ldM _ _ _ rfl rfl rfl rfl HX2.out ?_ | (refine wpList_ung (by rfl) ?_; refine wpList_ldM _ _ _ rfl rfl rfl rfl HX2.out ?_))
      refine (refMsg_any r _ HM2.out).mono ?_
      rw [HY.out]
      rintro e w3 ⟨rfl, hb⟩
      have E3 := Lib.hid (E2.out.trans hb)
      have HX3 := Lib.hid (HX2.out.below hb)
      have HM3 := Lib.hid (HM2.out.below hb)
      have HO3 := Lib.hid (HO2.out.below hb)
      clear hb E2 HX2 HM2 HO2
      go_wp2_with fail
      refine (dec_back _ _ _ r.m _ HM3.out.wf HY.out HQ.out HO3.out).mono ?_
      rintro e w4 ⟨r', hrm, rfl, hn, hb⟩
      have HRM := Lib.hid hrm
      have HN4 := Lib.hid hn
      clear hrm hn
      have E4 := Lib.hid (E3.out.trans hb)
      have HX4 := Lib.hid (HX3.out.below hb)
      have HM4 := Lib.hid (HM3.out.below hb)
      have HO4 := Lib.hid (HO3.out.below hb)
      clear hb E3 HX3 HM3 HO3
      have HFF : Hid (((strB (encMg r.m)).toList == (strB (encMg r.m)).toList) = true) := by show _ = _; simp
      have ST := Lib.hid (fun (w' : World) x c (h : SeenAt w' x c (encMg r.m)) => str_at h HQ.out)
      generalize strB (encMg r.m) = sr at *
      go_wp2_with (refine wpList_st 35 19 w4.heap.size 0 35 r'.cells #[.int .i64 0, .int .i64 0, .int .i64 0, .int .i64 0, .int .i64 0, .int .i64 0, .int .i64 0, .int .i64 0, .string ⟨#[]⟩, .int .i64 0, .int .u32 0, .slice none 0 0, .int .i64 0, .slice none 0 0, .slice none 0 0, .int .i64 0, .slice none 0 0, .slice none 0 0, .slice none 0 0] r'.cells _ _ rfl rfl rfl rfl rfl (by kernel_rfl) rfl (bx_new w4 #[.int .i64 0, .int .i64 0, .int .i64 0, .int .i64 0, .int .i64 0, .int .i64 0, .int .i64 0, .int .i64 0, .string ⟨#[]⟩, .int .i64 0, .int .u32 0, .slice none 0 0, .int .i64 0, .slice none 0 0, .slice none 0 0, .int .i64 0, .slice none 0 0, .slice none 0 0, .slice none 0 0] 35) (by simp) (cells_ones _) rfl ?_; intro w5 hx hc; have hb : Below w4.heap.size w4 w5 := hc.below (below_one w4 _) (by simp) (by simp); have HY5 := Lib.hid hx.box; have E5 := Lib.hid (E4.out.trans hb); have HX5 := Lib.hid (HX4.out.below hb); have HM5 := Lib.hid (HM4.out.below hb); have HO5 := Lib.hid (HO4.out.below hb); have HN5 := Lib.hid (HN4.out.below hb); clear hb hx hc E4 HX4 HM4 HO4 HN4)
      refine wp_region_ext (by kernel_rfl) ?_
      have hb := Below.drew (Below.refl w5.heap.size w5)
      have E6 := Lib.hid (E5.out.trans hb)
      have HX6 := Lib.hid (HX5.out.below hb)
      have HY6 := Lib.hid (HY5.out.below hb)
      have HM6 := Lib.hid (HM5.out.below hb)
      have HN6 := Lib.hid (HN5.out.below hb)
      have HO6 := Lib.hid (HO5.out.below hb)
      clear hb E5 HX5 HY5 HM5 HN5 HO5
      generalize w5.drew = w6 at *
      refine wpAnyH_one (i := 0) rfl (by kernel_rfl) (by rfl) (fun K hK => ?_)
      go_simp
      go_at_call 12
      refine (awake12 _).mono ?_
      rintro e w7 ⟨rfl, hb7⟩
      have hb := hb7
      have E7 := Lib.hid (E6.out.trans hb)
      have HX7 := Lib.hid (HX6.out.below hb)
      have HY7 := Lib.hid (HY6.out.below hb)
      have HM7 := Lib.hid (HM6.out.below hb)
      have HN7 := Lib.hid (HN6.out.below hb)
      have HO7 := Lib.hid (HO6.out.below hb)
      clear hb E6 HX6 HY6 HM6 HN6 HO6
      refine hK.out _ _ hb7 ?_
      clear hK K
      clear hb7
      refine wpAnyH_tk (i := 1) 40 (v := ?_) rfl rfl (by kernel_rfl) (by kernel_rfl) (by kernel_rfl) (by rfl) (fun wq hwq => ?_) ?_
      rotate_left
      · (go_simp <;> with_reducible rfl)
      simp only [List.setIfInBounds_toArray, List.set_cons_zero, List.set_cons_succ]
      refine wpAnyH_tk (i := 2) 41 (v := ?_) rfl rfl (by kernel_rfl) (by kernel_rfl) (by kernel_rfl) (by rfl) (fun wq hwq => ?_) ?_
      rotate_left
      · (go_simp <;> with_reducible rfl)
      simp only [List.setIfInBounds_toArray, List.set_cons_zero, List.set_cons_succ]
      refine wpAnyH_tk (i := 3) 42 (v := ?_) rfl rfl (by kernel_rfl) (by kernel_rfl) (by kernel_rfl) (by rfl) (fun wq hwq => ?_) ?_
      rotate_left
      · (go_simp <;> with_reducible rfl)
      simp only [List.setIfInBounds_toArray, List.set_cons_zero, List.set_cons_succ]
      refine wpAnyH_tk (i := 4) 43 (v := ?_) rfl rfl (by kernel_rfl) (by kernel_rfl) (by kernel_rfl) (by rfl) (fun wq hwq => ?_) ?_
      rotate_left
      · (go_simp <;> with_reducible rfl)
      simp only [List.setIfInBounds_toArray, List.set_cons_zero, List.set_cons_succ]
      refine wpAnyH_tk (i := 5) 44 (v := ?_) rfl rfl (by kernel_rfl) (by kernel_rfl) (by kernel_rfl) (by rfl) (fun wq hwq => ?_) ?_
      rotate_left
      · (go_simp <;> with_reducible rfl)
      simp only [List.setIfInBounds_toArray, List.set_cons_zero, List.set_cons_succ]
      refine wpAnyH_tk (i := 6) 45 (v := ?_) rfl rfl (by kernel_rfl) (by kernel_rfl) (by kernel_rfl) (by rfl) (fun wq hwq => ?_) ?_
      rotate_left
      · (go_simp <;> with_reducible rfl)
      simp only [List.setIfInBounds_toArray, List.set_cons_zero, List.set_cons_succ]
      refine wpAnyH_tk (i := 7) 46 (v := ?_) rfl rfl (by kernel_rfl) (by kernel_rfl) (by kernel_rfl) (by rfl) (fun wq hwq => ?_) ?_
      rotate_left
      · (have hx := ST.out wq _ _ (HO7.out.below hwq); go_simp <;> with_reducible rfl)
      simp only [List.setIfInBounds_toArray, List.set_cons_zero, List.set_cons_succ]
      refine wpAnyH_tk (i := 8) 47 (v := .agg r.cells) rfl rfl (by kernel_rfl) (by kernel_rfl) (by kernel_rfl) (by rfl) (fun wq hwq => exec_ldM _ _ _ rfl rfl rfl ((HX7.out).below hwq)) ?_
      simp only [List.setIfInBounds_toArray, List.set_cons_zero, List.set_cons_succ]
      refine wpAnyH_one (i := 9) rfl (by kernel_rfl) (by rfl) (fun K hK => ?_)
      go_simp
      refine (message_own r _ HM7.out HSM.out).mono ?_
      rintro e w8 ⟨g8, c8, rfl, ho8, hb8⟩
      have HP8 := Lib.hid ho8.seenAt
      clear ho8
      have hb := hb8
      have E8 := Lib.hid (E7.out.trans hb)
      have HX8 := Lib.hid (HX7.out.below hb)
      have HY8 := Lib.hid (HY7.out.below hb)
      have HM8 := Lib.hid (HM7.out.below hb)
      have HN8 := Lib.hid (HN7.out.below hb)
      clear hb E7 HX7 HY7 HM7 HN7
      rw [HQ.out]
      refine hK.out _ _ hb8 ?_
      clear hK K
      clear hb8
      refine wpAnyH_tk (i := 10) 49 (v := ?_) rfl rfl (by kernel_rfl) (by kernel_rfl) (by kernel_rfl) (by rfl) (fun wq hwq => ?_) ?_
      rotate_left
      · (have hx := ST.out wq _ _ (HP8.out.below hwq); go_simp <;> with_reducible rfl)
      simp only [List.setIfInBounds_toArray, List.set_cons_zero, List.set_cons_succ]
      refine wpAnyH_tk (i := 11) 50 (v := ?_) rfl rfl (by kernel_rfl) (by kernel_rfl) (by kernel_rfl) (by rfl) (fun wq hwq => ?_) ?_
      rotate_left
      · (have hx := HFF.out; go_simp <;> with_reducible rfl)
      simp only [List.setIfInBounds_toArray, List.set_cons_zero, List.set_cons_succ]
      refine wpAnyH_tk (i := 12) 51 (v := ?_) rfl rfl (by kernel_rfl) (by kernel_rfl) (by kernel_rfl) (by rfl) (fun wq hwq => ?_) ?_
      rotate_left
      · (go_simp <;> with_reducible rfl)
      simp only [List.setIfInBounds_toArray, List.set_cons_zero, List.set_cons_succ]
      refine wpAnyH_tk (i := 13) 52 (v := ?_) rfl rfl (by kernel_rfl) (by kernel_rfl) (by kernel_rfl) (by rfl) (fun wq hwq => ?_) ?_
      rotate_left
      · (go_simp <;> with_reducible rfl)
      simp only [List.setIfInBounds_toArray, List.set_cons_zero, List.set_cons_succ]
      refine wpAnyH_tk (i := 14) 53 (v := ?_) rfl rfl (by kernel_rfl) (by kernel_rfl) (by kernel_rfl) (by rfl) (fun wq hwq => ?_) ?_
      rotate_left
      · (go_simp <;> with_reducible rfl)
      simp only [List.setIfInBounds_toArray, List.set_cons_zero, List.set_cons_succ]
      refine wpAnyH_tk (i := 15) 54 (v := ?_) rfl rfl (by kernel_rfl) (by kernel_rfl) (by kernel_rfl) (by rfl) (fun wq hwq => ?_) ?_
      rotate_left
      · (go_simp <;> with_reducible rfl)
      simp only [List.setIfInBounds_toArray, List.set_cons_zero, List.set_cons_succ]
      refine wpAnyH_tk (i := 16) 55 (v := ?_) rfl rfl (by kernel_rfl) (by kernel_rfl) (by kernel_rfl) (by rfl) (fun wq hwq => ?_) ?_
      rotate_left
      · (go_simp <;> with_reducible rfl)
      simp only [List.setIfInBounds_toArray, List.set_cons_zero, List.set_cons_succ]
      refine wpAnyH_tk (i := 17) 56 (v := ?_) rfl rfl (by kernel_rfl) (by kernel_rfl) (by kernel_rfl) (by rfl) (fun wq hwq => ?_) ?_
      rotate_left
      · (go_simp <;> with_reducible rfl)
      simp only [List.setIfInBounds_toArray, List.set_cons_zero, List.set_cons_succ]
      refine wpAnyH_tk (i := 18) 57 (v := .agg r'.cells) rfl rfl (by kernel_rfl) (by kernel_rfl) (by kernel_rfl) (by rfl) (fun wq hwq => exec_ldM _ _ _ rfl rfl rfl ((HY8.out).below hwq)) ?_
      simp only [List.setIfInBounds_toArray, List.set_cons_zero, List.set_cons_succ]
      refine wpAnyH_tk (i := 19) 58 (v := .agg r.cells) rfl rfl (by kernel_rfl) (by kernel_rfl) (by kernel_rfl) (by rfl) (fun wq hwq => exec_ldM _ _ _ rfl rfl rfl ((HX8.out).below hwq)) ?_
      simp only [List.setIfInBounds_toArray, List.set_cons_zero, List.set_cons_succ]
      refine wpAnyH_one (i := 20) rfl (by kernel_rfl) (by rfl) (fun K hK => ?_)
      go_simp
      refine (sameMsg_self r' r _ HN8.out HM8.out HRM.out (by rw [HRM.out]; exact HSM.out)).mono ?_
      rintro e w9 ⟨rfl, hb9⟩
      have hb := hb9
      have E9 := Lib.hid (E8.out.trans hb)
      have HX9 := Lib.hid (HX8.out.below hb)
      have HM9 := Lib.hid (HM8.out.below hb)
      clear hb E8 HX8 HM8
      refine hK.out _ _ hb9 ?_
      clear hK K
      clear hb9
      refine wpAnyH_tk (i := 21) 60 (v := ?_) rfl rfl (by kernel_rfl) (by kernel_rfl) (by kernel_rfl) (by rfl) (fun wq hwq => ?_) ?_
      rotate_left
      · (go_simp <;> with_reducible rfl)
      simp only [List.setIfInBounds_toArray, List.set_cons_zero, List.set_cons_succ]
      refine wpAnyH_tk (i := 22) 61 (v := ?_) rfl rfl (by kernel_rfl) (by kernel_rfl) (by kernel_rfl) (by rfl) (fun wq hwq => ?_) ?_
      rotate_left
      · (go_simp <;> with_reducible rfl)
      simp only [List.setIfInBounds_toArray, List.set_cons_zero, List.set_cons_succ]
      refine wpAnyH_tk (i := 23) 62 (v := .agg r.cells) rfl rfl (by kernel_rfl) (by kernel_rfl) (by kernel_rfl) (by rfl) (fun wq hwq => exec_ldM _ _ _ rfl rfl rfl ((HX9.out).below hwq)) ?_
      simp only [List.setIfInBounds_toArray, List.set_cons_zero, List.set_cons_succ]
      refine wpAnyH_one (i := 24) rfl (by kernel_rfl) (by rfl) (fun K hK => ?_)
      go_simp
      refine (msgSound_any r _ HM9.out).mono ?_
      rw [HY.out]
      rintro e w10 ⟨rfl, hb10⟩
      have E10 := Lib.hid (E9.out.trans hb10)
      refine hK.out _ _ hb10 ?_
      clear hK K
      refine wpAnyH_tk (i := 25) 64 (v := ?_) rfl rfl (by kernel_rfl) (by kernel_rfl) (by kernel_rfl) (by rfl) (fun wq hwq => ?_) ?_
      rotate_left
      · (go_simp <;> with_reducible rfl)
      simp only [List.setIfInBounds_toArray, List.set_cons_zero, List.set_cons_succ]
      refine wpAnyH_tk (i := 26) 2 (v := ?_) rfl rfl (by kernel_rfl) (by kernel_rfl) (by kernel_rfl) (by rfl) (fun wq hwq => ?_) ?_
      rotate_left
      · (go_simp <;> with_reducible rfl)
      simp only [List.setIfInBounds_toArray, List.set_cons_zero, List.set_cons_succ]
      refine wpAnyH_done (by kernel_rfl) ?_ _
      refine NoPanic.normal ?_
      go_wp2
      go_ret
      exact ⟨rfl, E10.out⟩

end Go.Proofs.Ytggjpjpemgpeeaa
