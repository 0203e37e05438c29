/-
  The walk of the law MsgSames.
-/
import Derived.Test.YtggjpjpemgpeeaaAwake12
import Derived.Test.YtggjpjpemgpeeaaWalksH5
import Derived.Test.YtggjpjpemgpeeaaExt
namespace Go.Proofs.Ytggjpjpemgpeeaa
open Go.RowKit



set_option maxRecDepth 100000 in
set_option maxHeartbeats 8000000 in
theorem msgSames_walk (r r' : Rm) (w : World) (h : MsgAt w r) (h' : MsgAt w r') : Calls Try.prog 6 #[.agg r.cells, .agg r'.cells] w fun e w' => e = .returned (.bool true) ∧ Below w.heap.size w w' := by
  have HSELF : Hid (smB r.m r.m = sndMg r.m) := by show _ = _; unfold smB; cases sndMg r.m <;> simp
  have HCC : Hid ((sndMg r.m == sndMg r.m) = true) := by show _ = _; simp
  show Calls Try.prog 6 #[.agg #[.int .i64 r.m.kind, .int .i64 r.m.frm, .int .i64 r.m.to, .int .i64 r.m.epoch, .int .i64 r.m.ent.seq, .int .i64 r.m.ent.client, .int .i64 r.m.ent.num, .int .i64 r.m.ent.op, .string (strB r.m.ent.key), .int .i64 r.m.ent.size, .int .u32 (r.m.ent.sum : Int), .slice r.loc r.el r.c, .int .i64 r.m.e, .slice r.fa r.fl r.fc, .slice r.ka r.kl r.kc, .int .i64 r.m.cep, .slice r.ma r.ml r.mc, .slice r.sa r.sl r.sc, .slice r.na r.nl r.nc], .agg #[.int .i64 r'.m.kind, .int .i64 r'.m.frm, .int .i64 r'.m.to, .int .i64 r'.m.epoch, .int .i64 r'.m.ent.seq, .int .i64 r'.m.ent.client, .int .i64 r'.m.ent.num, .int .i64 r'.m.ent.op, .string (strB r'.m.ent.key), .int .i64 r'.m.ent.size, .int .u32 (r'.m.ent.sum : Int), .slice r'.loc r'.el r'.c, .int .i64 r'.m.e, .slice r'.fa r'.fl r'.fc, .slice r'.ka r'.kl r'.kc, .int .i64 r'.m.cep, .slice r'.ma r'.ml r'.mc, .slice r'.sa r'.sl r'.sc, .slice r'.na r'.nl r'.nc]] w _
  have HX0 : Hid (Box ((w.alloc (.cells #[.int .i64 r.m.kind, .int .i64 r.m.frm, .int .i64 r.m.to, .int .i64 r.m.epoch, .int .i64 r.m.ent.seq, .int .i64 r.m.ent.client, .int .i64 r.m.ent.num, .int .i64 r.m.ent.op, .string (strB r.m.ent.key), .int .i64 r.m.ent.size, .int .u32 (r.m.ent.sum : Int), .slice r.loc r.el r.c, .int .i64 r.m.e, .slice r.fa r.fl r.fc, .slice r.ka r.kl r.kc, .int .i64 r.m.cep, .slice r.ma r.ml r.mc, .slice r.sa r.sl r.sc, .slice r.na r.nl r.nc] 35)).alloc (.cells #[.int .i64 r'.m.kind, .int .i64 r'.m.frm, .int .i64 r'.m.to, .int .i64 r'.m.epoch, .int .i64 r'.m.ent.seq, .int .i64 r'.m.ent.client, .int .i64 r'.m.ent.num, .int .i64 r'.m.ent.op, .string (strB r'.m.ent.key), .int .i64 r'.m.ent.size, .int .u32 (r'.m.ent.sum : Int), .slice r'.loc r'.el r'.c, .int .i64 r'.m.e, .slice r'.fa r'.fl r'.fc, .slice r'.ka r'.kl r'.kc, .int .i64 r'.m.cep, .slice r'.ma r'.ml r'.mc, .slice r'.sa r'.sl r'.sc, .slice r'.na r'.nl r'.nc] 35)) w.heap.size r.cells) := (box_new w r.cells 35 _ rfl).below (below_one _ _)
  have HY0 : Hid (Box ((w.alloc (.cells #[.int .i64 r.m.kind, .int .i64 r.m.frm, .int .i64 r.m.to, .int .i64 r.m.epoch, .int .i64 r.m.ent.seq, .int .i64 r.m.ent.client, .int .i64 r.m.ent.num, .int .i64 r.m.ent.op, .string (strB r.m.ent.key), .int .i64 r.m.ent.size, .int .u32 (r.m.ent.sum : Int), .slice r.loc r.el r.c, .int .i64 r.m.e, .slice r.fa r.fl r.fc, .slice r.ka r.kl r.kc, .int .i64 r.m.cep, .slice r.ma r.ml r.mc, .slice r.sa r.sl r.sc, .slice r.na r.nl r.nc] 35)).alloc (.cells #[.int .i64 r'.m.kind, .int .i64 r'.m.frm, .int .i64 r'.m.to, .int .i64 r'.m.epoch, .int .i64 r'.m.ent.seq, .int .i64 r'.m.ent.client, .int .i64 r'.m.ent.num, .int .i64 r'.m.ent.op, .string (strB r'.m.ent.key), .int .i64 r'.m.ent.size, .int .u32 (r'.m.ent.sum : Int), .slice r'.loc r'.el r'.c, .int .i64 r'.m.e, .slice r'.fa r'.fl r'.fc, .slice r'.ka r'.kl r'.kc, .int .i64 r'.m.cep, .slice r'.ma r'.ml r'.mc, .slice r'.sa r'.sl r'.sc, .slice r'.na r'.nl r'.nc] 35)) (w.heap.size + 1) r'.cells) := box_new (w.alloc (.cells #[.int .i64 r.m.kind, .int .i64 r.m.frm, .int .i64 r.m.to, .int .i64 r.m.epoch, .int .i64 r.m.ent.seq, .int .i64 r.m.ent.client, .int .i64 r.m.ent.num, .int .i64 r.m.ent.op, .string (strB r.m.ent.key), .int .i64 r.m.ent.size, .int .u32 (r.m.ent.sum : Int), .slice r.loc r.el r.c, .int .i64 r.m.e, .slice r.fa r.fl r.fc, .slice r.ka r.kl r.kc, .int .i64 r.m.cep, .slice r.ma r.ml r.mc, .slice r.sa r.sl r.sc, .slice r.na r.nl r.nc] 35)) r'.cells 35 _ (by simp)
  have E0 : Hid (Ext w ((w.alloc (.cells #[.int .i64 r.m.kind, .int .i64 r.m.frm, .int .i64 r.m.to, .int .i64 r.m.epoch, .int .i64 r.m.ent.seq, .int .i64 r.m.ent.client, .int .i64 r.m.ent.num, .int .i64 r.m.ent.op, .string (strB r.m.ent.key), .int .i64 r.m.ent.size, .int .u32 (r.m.ent.sum : Int), .slice r.loc r.el r.c, .int .i64 r.m.e, .slice r.fa r.fl r.fc, .slice r.ka r.kl r.kc, .int .i64 r.m.cep, .slice r.ma r.ml r.mc, .slice r.sa r.sl r.sc, .slice r.na r.nl r.nc] 35)).alloc (.cells #[.int .i64 r'.m.kind, .int .i64 r'.m.frm, .int .i64 r'.m.to, .int .i64 r'.m.epoch, .int .i64 r'.m.ent.seq, .int .i64 r'.m.ent.client, .int .i64 r'.m.ent.num, .int .i64 r'.m.ent.op, .string (strB r'.m.ent.key), .int .i64 r'.m.ent.size, .int .u32 (r'.m.ent.sum : Int), .slice r'.loc r'.el r'.c, .int .i64 r'.m.e, .slice r'.fa r'.fl r'.fc, .slice r'.ka r'.kl r'.kc, .int .i64 r'.m.cep, .slice r'.ma r'.ml r'.mc, .slice r'.sa r'.sl r'.sc, .slice r'.na r'.nl r'.nc] 35))) := (below_one w _).alloc (by simp) _
  have HM0 := Lib.hid (h.below E0.out)
  have HN0 := Lib.hid (h'.below E0.out)
  have HWF := Lib.hid h.wf
  have HWF' := Lib.hid h'.wf
  clear h h'
  go_enter Try.func6, Try.ntmps6
  go_wp2_with (first | refine wpList_ldM _ _ _ rfl rfl rfl rfl HX0.out ?_ | (refine wpList_ung (by rfl) ?_; refine wpList_ldM _ _ _ rfl rfl rfl rfl HX0.out ?_) | refine wpList_ldM _ _ _ rfl rfl rfl rfl HY0.out ?_ | (refine wpList_ung (by rfl) ?_; refine wpList_ldM _ _ _ rfl rfl rfl rfl HY0.out ?_))
  generalize ((w.alloc (.cells #[.int .i64 r.m.kind, .int .i64 r.m.frm, .int .i64 r.m.to, .int .i64 r.m.epoch, .int .i64 r.m.ent.seq, .int .i64 r.m.ent.client, .int .i64 r.m.ent.num, .int .i64 r.m.ent.op, .string (strB r.m.ent.key), .int .i64 r.m.ent.size, .int .u32 (r.m.ent.sum : Int), .slice r.loc r.el r.c, .int .i64 r.m.e, .slice r.fa r.fl r.fc, .slice r.ka r.kl r.kc, .int .i64 r.m.cep, .slice r.ma r.ml r.mc, .slice r.sa r.sl r.sc, .slice r.na r.nl r.nc] 35)).alloc (.cells #[.int .i64 r'.m.kind, .int .i64 r'.m.frm, .int .i64 r'.m.to, .int .i64 r'.m.epoch, .int .i64 r'.m.ent.seq, .int .i64 r'.m.ent.client, .int .i64 r'.m.ent.num, .int .i64 r'.m.ent.op, .string (strB r'.m.ent.key), .int .i64 r'.m.ent.size, .int .u32 (r'.m.ent.sum : Int), .slice r'.loc r'.el r'.c, .int .i64 r'.m.e, .slice r'.fa r'.fl r'.fc, .slice r'.ka r'.kl r'.kc, .int .i64 r'.m.cep, .slice r'.ma r'.ml r'.mc, .slice r'.sa r'.sl r'.sc, .slice r'.na r'.nl r'.nc] 35)) = w0 at *
  refine (light_any r _).mono ?_
  rintro e w1 ⟨bb, rfl, hb⟩
  have E1 := Lib.hid (E0.out.trans hb)
  have HX1 := Lib.hid (HX0.out.below hb)
  have HY1 := Lib.hid (HY0.out.below hb)
  have HM1 := Lib.hid (HM0.out.below hb)
  have HN1 := Lib.hid (HN0.out.below hb)
  clear hb E0 HX0 HY0 HM0 HN0
  cases bb
  · go_wp2_with fail
    refine (awake12 _).mono ?_
    rintro e w2 ⟨rfl, hb⟩
    have E2 := Lib.hid (E1.out.trans hb)
    clear hb E1 
    go_wp2
    go_ret
    exact ⟨rfl, E2.out⟩
  go_wp2_with (first | refine wpList_ldM _ _ _ rfl rfl rfl rfl HX1.out ?_ | (refine wpList_ung (by rfl) ?_; refine wpList_ldM _ _ _ rfl rfl rfl rfl HX1.out ?_) | refine wpList_ldM _ _ _ rfl rfl rfl rfl HY1.out ?_ | (refine wpList_ung (by rfl) ?_; refine wpList_ldM _ _ _ rfl rfl rfl rfl HY1.out ?_))
  refine (light_any r' _).mono ?_
  rintro e w2 ⟨bb, rfl, hb⟩
  have E2 := Lib.hid (E1.out.trans hb)
  have HX2 := Lib.hid (HX1.out.below hb)
  have HY2 := Lib.hid (HY1.out.below hb)
  have HM2 := Lib.hid (HM1.out.below hb)
  have HN2 := Lib.hid (HN1.out.below hb)
  clear hb E1 HX1 HY1 HM1 HN1
  cases bb
  · go_wp2_with fail
    refine (awake12 _).mono ?_
    rintro e w3 ⟨rfl, hb⟩
    have E3 := Lib.hid (E2.out.trans hb)
    clear hb E2 
    go_wp2
    go_ret
    exact ⟨rfl, E3.out⟩
  go_wp2_with (first | refine wpList_ldM _ _ _ rfl rfl rfl rfl HX2.out ?_ | (refine wpList_ung (by rfl) ?_; refine wpList_ldM _ _ _ rfl rfl rfl rfl HX2.out ?_) | refine wpList_ldM _ _ _ rfl rfl rfl rfl HY2.out ?_ | (refine wpList_ung (by rfl) ?_; refine wpList_ldM _ _ _ rfl rfl rfl rfl HY2.out ?_))
  refine (refMsg_any r _ HM2.out).mono ?_
  rintro e w3 ⟨rfl, hb⟩
  have E3 := Lib.hid (E2.out.trans hb)
  have HX3 := Lib.hid (HX2.out.below hb)
  have HY3 := Lib.hid (HY2.out.below hb)
  have HM3 := Lib.hid (HM2.out.below hb)
  have HN3 := Lib.hid (HN2.out.below hb)
  clear hb E2 HX2 HY2 HM2 HN2
  cases hs : sndMg r.m
  · have HANS : Hid (smB r.m r'.m = false) := by show _ = _; unfold smB; rw [hs]; simp
    have HBB : Hid ((false == false) = true) := rfl
    rw [hs] at HSELF HCC
    have HRS := Lib.hid hs
    clear hs
    go_wp2_with fail
    refine wp_region_ext (by kernel_rfl) ?_
    have hb := Below.drew (Below.refl w3.heap.size w3)
    have E8 := Lib.hid (E3.out.trans hb)
    have HX8 := Lib.hid (HX3.out.below hb)
    have HY8 := Lib.hid (HY3.out.below hb)
    have HM8 := Lib.hid (HM3.out.below hb)
    have HN8 := Lib.hid (HN3.out.below hb)
    clear hb E3 HX3 HY3 HM3 HN3
    generalize w3.drew = w8 at *
    refine wpAnyH_one (i := 0) rfl (by kernel_rfl) (by rfl) (fun K hK => ?_)
    go_simp
    go_at_call 12
    refine (awake12 _).mono ?_
    rintro e w9 ⟨rfl, hb9⟩
    have hb := hb9
    have E9 := Lib.hid (E8.out.trans hb)
    have HX9 := Lib.hid (HX8.out.below hb)
    have HY9 := Lib.hid (HY8.out.below hb)
    have HM9 := Lib.hid (HM8.out.below hb)
    have HN9 := Lib.hid (HN8.out.below hb)
    clear hb E8 HX8 HY8 HM8 HN8
    refine hK.out _ _ hb9 ?_
    clear hK K
    clear hb9
    refine wpAnyH_tk (i := 1) 27 (v := ?_) rfl rfl (by kernel_rfl) (by kernel_rfl) (by kernel_rfl) (by rfl) (fun wq hwq => ?_) ?_
    rotate_left
    · (go_simp <;> with_reducible rfl)
    simp only [List.setIfInBounds_toArray, List.set_cons_zero, List.set_cons_succ]
    refine wpAnyH_tk (i := 2) 28 (v := .agg r.cells) rfl rfl (by kernel_rfl) (by kernel_rfl) (by kernel_rfl) (by rfl) (fun wq hwq => exec_ldM _ _ _ rfl rfl rfl ((HX9.out).below hwq)) ?_
    simp only [List.setIfInBounds_toArray, List.set_cons_zero, List.set_cons_succ]
    refine wpAnyH_tk (i := 3) 29 (v := .agg r'.cells) rfl rfl (by kernel_rfl) (by kernel_rfl) (by kernel_rfl) (by rfl) (fun wq hwq => exec_ldM _ _ _ rfl rfl rfl ((HY9.out).below hwq)) ?_
    simp only [List.setIfInBounds_toArray, List.set_cons_zero, List.set_cons_succ]
    refine wpAnyH_tk (i := 5) 31 (v := ?_) rfl rfl (by kernel_rfl) (by kernel_rfl) (by kernel_rfl) (by rfl) (fun wq hwq => ?_) ?_
    rotate_left
    · (go_simp <;> with_reducible rfl)
    simp only [List.setIfInBounds_toArray, List.set_cons_zero, List.set_cons_succ]
    refine wpAnyH_one (i := 4) rfl (by kernel_rfl) (by rfl) (fun K hK => ?_)
    go_simp
    refine (msgSame_any r r' _ HM9.out HN9.out).mono ?_
    rw [HANS.out]
    rintro e w10 ⟨rfl, hb10⟩
    have hb := hb10
    have E10 := Lib.hid (E9.out.trans hb)
    have HX10 := Lib.hid (HX9.out.below hb)
    have HY10 := Lib.hid (HY9.out.below hb)
    have HM10 := Lib.hid (HM9.out.below hb)
    have HN10 := Lib.hid (HN9.out.below hb)
    clear hb E9 HX9 HY9 HM9 HN9
    refine hK.out _ _ hb10 ?_
    clear hK K
    clear hb10
    refine wpAnyH_tk (i := 6) 32 (v := ?_) rfl rfl (by kernel_rfl) (by kernel_rfl) (by kernel_rfl) (by rfl) (fun wq hwq => ?_) ?_
    rotate_left
    · (have hx := HBB.out; go_simp <;> with_reducible rfl)
    simp only [List.setIfInBounds_toArray, List.set_cons_zero, List.set_cons_succ]
    refine wpAnyH_tk (i := 7) 33 (v := ?_) rfl rfl (by kernel_rfl) (by kernel_rfl) (by kernel_rfl) (by rfl) (fun wq hwq => ?_) ?_
    rotate_left
    · (go_simp <;> with_reducible rfl)
    simp only [List.setIfInBounds_toArray, List.set_cons_zero, List.set_cons_succ]
    refine wpAnyH_tk (i := 8) 34 (v := ?_) rfl rfl (by kernel_rfl) (by kernel_rfl) (by kernel_rfl) (by rfl) (fun wq hwq => ?_) ?_
    rotate_left
    · (go_simp <;> with_reducible rfl)
    simp only [List.setIfInBounds_toArray, List.set_cons_zero, List.set_cons_succ]
    refine wpAnyH_tk (i := 9) 35 (v := .agg r.cells) rfl rfl (by kernel_rfl) (by kernel_rfl) (by kernel_rfl) (by rfl) (fun wq hwq => exec_ldM _ _ _ rfl rfl rfl ((HX10.out).below hwq)) ?_
    simp only [List.setIfInBounds_toArray, List.set_cons_zero, List.set_cons_succ]
    refine wpAnyH_tk (i := 10) 36 (v := .agg r.cells) rfl rfl (by kernel_rfl) (by kernel_rfl) (by kernel_rfl) (by rfl) (fun wq hwq => exec_ldM _ _ _ rfl rfl rfl ((HX10.out).below hwq)) ?_
    simp only [List.setIfInBounds_toArray, List.set_cons_zero, List.set_cons_succ]
    refine wpAnyH_tk (i := 12) 38 (v := .agg r.cells) rfl rfl (by kernel_rfl) (by kernel_rfl) (by kernel_rfl) (by rfl) (fun wq hwq => exec_ldM _ _ _ rfl rfl rfl ((HX10.out).below hwq)) ?_
    simp only [List.setIfInBounds_toArray, List.set_cons_zero, List.set_cons_succ]
    refine wpAnyH_one (i := 11) rfl (by kernel_rfl) (by rfl) (fun K hK => ?_)
    go_simp
    refine (msgSame_any r r _ HM10.out HM10.out).mono ?_
    rw [HSELF.out]
    rintro e w11 ⟨rfl, hb11⟩
    have hb := hb11
    have E11 := Lib.hid (E10.out.trans hb)
    have HM11 := Lib.hid (HM10.out.below hb)
    clear hb E10 HM10
    refine hK.out _ _ hb11 ?_
    clear hK K
    clear hb11
    refine wpAnyH_one (i := 13) rfl (by kernel_rfl) (by rfl) (fun K hK => ?_)
    go_simp
    refine (refMsg_any r _ HM11.out).mono ?_
    rw [HRS.out]
    rintro e w12 ⟨rfl, hb12⟩
    have E12 := Lib.hid (E11.out.trans hb12)
    refine hK.out _ _ hb12 ?_
    clear hK K
    clear hb12
    refine wpAnyH_tk (i := 14) 40 (v := ?_) rfl rfl (by kernel_rfl) (by kernel_rfl) (by kernel_rfl) (by rfl) (fun wq hwq => ?_) ?_
    rotate_left
    · (have hx := HCC.out; go_simp <;> with_reducible rfl)
    simp only [List.setIfInBounds_toArray, List.set_cons_zero, List.set_cons_succ]
    refine wpAnyH_tk (i := 15) 41 (v := ?_) rfl rfl (by kernel_rfl) (by kernel_rfl) (by kernel_rfl) (by rfl) (fun wq hwq => ?_) ?_
    rotate_left
    · (go_simp <;> with_reducible rfl)
    simp only [List.setIfInBounds_toArray, List.set_cons_zero, List.set_cons_succ]
    refine wpAnyH_tk (i := 16) 4 (v := ?_) rfl rfl (by kernel_rfl) (by kernel_rfl) (by kernel_rfl) (by rfl) (fun wq hwq => ?_) ?_
    rotate_left
    · (go_simp <;> with_reducible rfl)
    simp only [List.setIfInBounds_toArray, List.set_cons_zero, List.set_cons_succ]
    refine wpAnyH_done (by kernel_rfl) ?_ _
    refine NoPanic.normal ?_
    go_wp2
    go_ret
    exact ⟨rfl, E12.out⟩
  have HRS := Lib.hid hs
  rw [hs] at HSELF HCC
  clear hs
  go_wp2_with (first | refine wpList_ldM _ _ _ rfl rfl rfl rfl HX3.out ?_ | (refine wpList_ung (by rfl) ?_; refine wpList_ldM _ _ _ rfl rfl rfl rfl HX3.out ?_) | refine wpList_ldM _ _ _ rfl rfl rfl rfl HY3.out ?_ | (refine wpList_ung (by rfl) ?_; refine wpList_ldM _ _ _ rfl rfl rfl rfl HY3.out ?_))
  refine (refMsg_any r' _ HN3.out).mono ?_
  rintro e w4 ⟨rfl, hb⟩
  have E4 := Lib.hid (E3.out.trans hb)
  have HX4 := Lib.hid (HX3.out.below hb)
  have HY4 := Lib.hid (HY3.out.below hb)
  have HM4 := Lib.hid (HM3.out.below hb)
  have HN4 := Lib.hid (HN3.out.below hb)
  clear hb E3 HX3 HY3 HM3 HN3
  cases hs' : sndMg r'.m
  · have HANS : Hid (smB r.m r'.m = false) := by show _ = _; unfold smB; rw [hs', HRS.out]; simp
    have HBB : Hid ((false == false) = true) := rfl
    clear hs'
    go_wp2_with fail
    refine wp_region_ext (by kernel_rfl) ?_
    have hb := Below.drew (Below.refl w4.heap.size w4)
    have E8 := Lib.hid (E4.out.trans hb)
    have HX8 := Lib.hid (HX4.out.below hb)
    have HY8 := Lib.hid (HY4.out.below hb)
    have HM8 := Lib.hid (HM4.out.below hb)
    have HN8 := Lib.hid (HN4.out.below hb)
    clear hb E4 HX4 HY4 HM4 HN4
    generalize w4.drew = w8 at *
    refine wpAnyH_one (i := 0) rfl (by kernel_rfl) (by rfl) (fun K hK => ?_)
    go_simp
    go_at_call 12
    refine (awake12 _).mono ?_
    rintro e w9 ⟨rfl, hb9⟩
    have hb := hb9
    have E9 := Lib.hid (E8.out.trans hb)
    have HX9 := Lib.hid (HX8.out.below hb)
    have HY9 := Lib.hid (HY8.out.below hb)
    have HM9 := Lib.hid (HM8.out.below hb)
    have HN9 := Lib.hid (HN8.out.below hb)
    clear hb E8 HX8 HY8 HM8 HN8
    refine hK.out _ _ hb9 ?_
    clear hK K
    clear hb9
    refine wpAnyH_tk (i := 1) 27 (v := ?_) rfl rfl (by kernel_rfl) (by kernel_rfl) (by kernel_rfl) (by rfl) (fun wq hwq => ?_) ?_
    rotate_left
    · (go_simp <;> with_reducible rfl)
    simp only [List.setIfInBounds_toArray, List.set_cons_zero, List.set_cons_succ]
    refine wpAnyH_tk (i := 2) 28 (v := .agg r.cells) rfl rfl (by kernel_rfl) (by kernel_rfl) (by kernel_rfl) (by rfl) (fun wq hwq => exec_ldM _ _ _ rfl rfl rfl ((HX9.out).below hwq)) ?_
    simp only [List.setIfInBounds_toArray, List.set_cons_zero, List.set_cons_succ]
    refine wpAnyH_tk (i := 3) 29 (v := .agg r'.cells) rfl rfl (by kernel_rfl) (by kernel_rfl) (by kernel_rfl) (by rfl) (fun wq hwq => exec_ldM _ _ _ rfl rfl rfl ((HY9.out).below hwq)) ?_
    simp only [List.setIfInBounds_toArray, List.set_cons_zero, List.set_cons_succ]
    refine wpAnyH_tk (i := 5) 31 (v := ?_) rfl rfl (by kernel_rfl) (by kernel_rfl) (by kernel_rfl) (by rfl) (fun wq hwq => ?_) ?_
    rotate_left
    · (go_simp <;> with_reducible rfl)
    simp only [List.setIfInBounds_toArray, List.set_cons_zero, List.set_cons_succ]
    refine wpAnyH_one (i := 4) rfl (by kernel_rfl) (by rfl) (fun K hK => ?_)
    go_simp
    refine (msgSame_any r r' _ HM9.out HN9.out).mono ?_
    rw [HANS.out]
    rintro e w10 ⟨rfl, hb10⟩
    have hb := hb10
    have E10 := Lib.hid (E9.out.trans hb)
    have HX10 := Lib.hid (HX9.out.below hb)
    have HY10 := Lib.hid (HY9.out.below hb)
    have HM10 := Lib.hid (HM9.out.below hb)
    have HN10 := Lib.hid (HN9.out.below hb)
    clear hb E9 HX9 HY9 HM9 HN9
    refine hK.out _ _ hb10 ?_
    clear hK K
    clear hb10
    refine wpAnyH_tk (i := 6) 32 (v := ?_) rfl rfl (by kernel_rfl) (by kernel_rfl) (by kernel_rfl) (by rfl) (fun wq hwq => ?_) ?_
    rotate_left
    · (have hx := HBB.out; go_simp <;> with_reducible rfl)
    simp only [List.setIfInBounds_toArray, List.set_cons_zero, List.set_cons_succ]
    refine wpAnyH_tk (i := 7) 33 (v := ?_) rfl rfl (by kernel_rfl) (by kernel_rfl) (by kernel_rfl) (by rfl) (fun wq hwq => ?_) ?_
    rotate_left
    · (go_simp <;> with_reducible rfl)
    simp only [List.setIfInBounds_toArray, List.set_cons_zero, List.set_cons_succ]
    refine wpAnyH_tk (i := 8) 34 (v := ?_) rfl rfl (by kernel_rfl) (by kernel_rfl) (by kernel_rfl) (by rfl) (fun wq hwq => ?_) ?_
    rotate_left
    · (go_simp <;> with_reducible rfl)
    simp only [List.setIfInBounds_toArray, List.set_cons_zero, List.set_cons_succ]
    refine wpAnyH_tk (i := 9) 35 (v := .agg r.cells) rfl rfl (by kernel_rfl) (by kernel_rfl) (by kernel_rfl) (by rfl) (fun wq hwq => exec_ldM _ _ _ rfl rfl rfl ((HX10.out).below hwq)) ?_
    simp only [List.setIfInBounds_toArray, List.set_cons_zero, List.set_cons_succ]
    refine wpAnyH_tk (i := 10) 36 (v := .agg r.cells) rfl rfl (by kernel_rfl) (by kernel_rfl) (by kernel_rfl) (by rfl) (fun wq hwq => exec_ldM _ _ _ rfl rfl rfl ((HX10.out).below hwq)) ?_
    simp only [List.setIfInBounds_toArray, List.set_cons_zero, List.set_cons_succ]
    refine wpAnyH_tk (i := 12) 38 (v := .agg r.cells) rfl rfl (by kernel_rfl) (by kernel_rfl) (by kernel_rfl) (by rfl) (fun wq hwq => exec_ldM _ _ _ rfl rfl rfl ((HX10.out).below hwq)) ?_
    simp only [List.setIfInBounds_toArray, List.set_cons_zero, List.set_cons_succ]
    refine wpAnyH_one (i := 11) rfl (by kernel_rfl) (by rfl) (fun K hK => ?_)
    go_simp
    refine (msgSame_any r r _ HM10.out HM10.out).mono ?_
    rw [HSELF.out]
    rintro e w11 ⟨rfl, hb11⟩
    have hb := hb11
    have E11 := Lib.hid (E10.out.trans hb)
    have HM11 := Lib.hid (HM10.out.below hb)
    clear hb E10 HM10
    refine hK.out _ _ hb11 ?_
    clear hK K
    clear hb11
    refine wpAnyH_one (i := 13) rfl (by kernel_rfl) (by rfl) (fun K hK => ?_)
    go_simp
    refine (refMsg_any r _ HM11.out).mono ?_
    rw [HRS.out]
    rintro e w12 ⟨rfl, hb12⟩
    have E12 := Lib.hid (E11.out.trans hb12)
    refine hK.out _ _ hb12 ?_
    clear hK K
    clear hb12
    refine wpAnyH_tk (i := 14) 40 (v := ?_) rfl rfl (by kernel_rfl) (by kernel_rfl) (by kernel_rfl) (by rfl) (fun wq hwq => ?_) ?_
    rotate_left
    · (have hx := HCC.out; go_simp <;> with_reducible rfl)
    simp only [List.setIfInBounds_toArray, List.set_cons_zero, List.set_cons_succ]
    refine wpAnyH_tk (i := 15) 41 (v := ?_) rfl rfl (by kernel_rfl) (by kernel_rfl) (by kernel_rfl) (by rfl) (fun wq hwq => ?_) ?_
    rotate_left
    · (go_simp <;> with_reducible rfl)
    simp only [List.setIfInBounds_toArray, List.set_cons_zero, List.set_cons_succ]
    refine wpAnyH_tk (i := 16) 4 (v := ?_) rfl rfl (by kernel_rfl) (by kernel_rfl) (by kernel_rfl) (by rfl) (fun wq hwq => ?_) ?_
    rotate_left
    · (go_simp <;> with_reducible rfl)
    simp only [List.setIfInBounds_toArray, List.set_cons_zero, List.set_cons_succ]
    refine wpAnyH_done (by kernel_rfl) ?_ _
    refine NoPanic.normal ?_
    go_wp2
    go_ret
    exact ⟨rfl, E12.out⟩
  have HRS' := Lib.hid hs'
  clear hs'
  go_wp2_with (first | refine wpList_ldM _ _ _ rfl rfl rfl rfl HX4.out ?_ | (refine wpList_ung (by rfl) ?_; refine wpList_ldM _ _ _ rfl rfl rfl rfl HX4.out ?_) | refine wpList_ldM _ _ _ rfl rfl rfl rfl HY4.out ?_ | (refine wpList_ung (by rfl) ?_; refine wpList_ldM _ _ _ rfl rfl rfl rfl HY4.out ?_))
  refine (sameMsg_any r r' _ HM4.out (sndMg_is HRS.out) HN4.out (sndMg_is HRS'.out)).mono ?_
  obtain ⟨ans, hans⟩ : ∃ q, decide (encMg r.m = encMg r'.m) = q := ⟨_, rfl⟩
  have HANS : Hid (smB r.m r'.m = ans) := by show _ = _; unfold smB; rw [HRS.out, HRS'.out, hans]; simp
  have HBB : Hid ((ans == ans) = true) := by show _ = _; simp
  rw [hans]
  clear hans
  rintro e w5 ⟨rfl, hb⟩
  have E5 := Lib.hid (E4.out.trans hb)
  have HX5 := Lib.hid (HX4.out.below hb)
  have HY5 := Lib.hid (HY4.out.below hb)
  have HM5 := Lib.hid (HM4.out.below hb)
  have HN5 := Lib.hid (HN4.out.below hb)
  clear hb E4 HX4 HY4 HM4 HN4
  go_wp2_with fail
  refine wp_region_ext (by kernel_rfl) ?_
  have hb := Below.drew (Below.refl w5.heap.size w5)
  have E8 := Lib.hid (E5.out.trans hb)
  have HX8 := Lib.hid (HX5.out.below hb)
  have HY8 := Lib.hid (HY5.out.below hb)
  have HM8 := Lib.hid (HM5.out.below hb)
  have HN8 := Lib.hid (HN5.out.below hb)
  clear hb E5 HX5 HY5 HM5 HN5
  generalize w5.drew = w8 at *
  refine wpAnyH_one (i := 0) rfl (by kernel_rfl) (by rfl) (fun K hK => ?_)
  go_simp
  go_at_call 12
  refine (awake12 _).mono ?_
  rintro e w9 ⟨rfl, hb9⟩
  have hb := hb9
  have E9 := Lib.hid (E8.out.trans hb)
  have HX9 := Lib.hid (HX8.out.below hb)
  have HY9 := Lib.hid (HY8.out.below hb)
  have HM9 := Lib.hid (HM8.out.below hb)
  have HN9 := Lib.hid (HN8.out.below hb)
  clear hb E8 HX8 HY8 HM8 HN8
  refine hK.out _ _ hb9 ?_
  clear hK K
  clear hb9
  refine wpAnyH_tk (i := 1) 27 (v := ?_) rfl rfl (by kernel_rfl) (by kernel_rfl) (by kernel_rfl) (by rfl) (fun wq hwq => ?_) ?_
  rotate_left
  · (go_simp <;> with_reducible rfl)
  simp only [List.setIfInBounds_toArray, List.set_cons_zero, List.set_cons_succ]
  refine wpAnyH_tk (i := 2) 28 (v := .agg r.cells) rfl rfl (by kernel_rfl) (by kernel_rfl) (by kernel_rfl) (by rfl) (fun wq hwq => exec_ldM _ _ _ rfl rfl rfl ((HX9.out).below hwq)) ?_
  simp only [List.setIfInBounds_toArray, List.set_cons_zero, List.set_cons_succ]
  refine wpAnyH_tk (i := 3) 29 (v := .agg r'.cells) rfl rfl (by kernel_rfl) (by kernel_rfl) (by kernel_rfl) (by rfl) (fun wq hwq => exec_ldM _ _ _ rfl rfl rfl ((HY9.out).below hwq)) ?_
  simp only [List.setIfInBounds_toArray, List.set_cons_zero, List.set_cons_succ]
  refine wpAnyH_tk (i := 5) 31 (v := ?_) rfl rfl (by kernel_rfl) (by kernel_rfl) (by kernel_rfl) (by rfl) (fun wq hwq => ?_) ?_
  rotate_left
  · (go_simp <;> with_reducible rfl)
  simp only [List.setIfInBounds_toArray, List.set_cons_zero, List.set_cons_succ]
  refine wpAnyH_one (i := 4) rfl (by kernel_rfl) (by rfl) (fun K hK => ?_)
  go_simp
  refine (msgSame_any r r' _ HM9.out HN9.out).mono ?_
  rw [HANS.out]
  rintro e w10 ⟨rfl, hb10⟩
  have hb := hb10
  have E10 := Lib.hid (E9.out.trans hb)
  have HX10 := Lib.hid (HX9.out.below hb)
  have HY10 := Lib.hid (HY9.out.below hb)
  have HM10 := Lib.hid (HM9.out.below hb)
  have HN10 := Lib.hid (HN9.out.below hb)
  clear hb E9 HX9 HY9 HM9 HN9
  refine hK.out _ _ hb10 ?_
  clear hK K
  clear hb10
  refine wpAnyH_tk (i := 6) 32 (v := ?_) rfl rfl (by kernel_rfl) (by kernel_rfl) (by kernel_rfl) (by rfl) (fun wq hwq => ?_) ?_
  rotate_left
  · (have hx := HBB.out; go_simp <;> with_reducible rfl)
  simp only [List.setIfInBounds_toArray, List.set_cons_zero, List.set_cons_succ]
  refine wpAnyH_tk (i := 7) 33 (v := ?_) rfl rfl (by kernel_rfl) (by kernel_rfl) (by kernel_rfl) (by rfl) (fun wq hwq => ?_) ?_
  rotate_left
  · (go_simp <;> with_reducible rfl)
  simp only [List.setIfInBounds_toArray, List.set_cons_zero, List.set_cons_succ]
  refine wpAnyH_tk (i := 8) 34 (v := ?_) rfl rfl (by kernel_rfl) (by kernel_rfl) (by kernel_rfl) (by rfl) (fun wq hwq => ?_) ?_
  rotate_left
  · (go_simp <;> with_reducible rfl)
  simp only [List.setIfInBounds_toArray, List.set_cons_zero, List.set_cons_succ]
  refine wpAnyH_tk (i := 9) 35 (v := .agg r.cells) rfl rfl (by kernel_rfl) (by kernel_rfl) (by kernel_rfl) (by rfl) (fun wq hwq => exec_ldM _ _ _ rfl rfl rfl ((HX10.out).below hwq)) ?_
  simp only [List.setIfInBounds_toArray, List.set_cons_zero, List.set_cons_succ]
  refine wpAnyH_tk (i := 10) 36 (v := .agg r.cells) rfl rfl (by kernel_rfl) (by kernel_rfl) (by kernel_rfl) (by rfl) (fun wq hwq => exec_ldM _ _ _ rfl rfl rfl ((HX10.out).below hwq)) ?_
  simp only [List.setIfInBounds_toArray, List.set_cons_zero, List.set_cons_succ]
  refine wpAnyH_tk (i := 12) 38 (v := .agg r.cells) rfl rfl (by kernel_rfl) (by kernel_rfl) (by kernel_rfl) (by rfl) (fun wq hwq => exec_ldM _ _ _ rfl rfl rfl ((HX10.out).below hwq)) ?_
  simp only [List.setIfInBounds_toArray, List.set_cons_zero, List.set_cons_succ]
  refine wpAnyH_one (i := 11) rfl (by kernel_rfl) (by rfl) (fun K hK => ?_)
  go_simp
  refine (msgSame_any r r _ HM10.out HM10.out).mono ?_
  rw [HSELF.out]
  rintro e w11 ⟨rfl, hb11⟩
  have hb := hb11
  have E11 := Lib.hid (E10.out.trans hb)
  have HM11 := Lib.hid (HM10.out.below hb)
  clear hb E10 HM10
  refine hK.out _ _ hb11 ?_
  clear hK K
  clear hb11
  refine wpAnyH_one (i := 13) rfl (by kernel_rfl) (by rfl) (fun K hK => ?_)
  go_simp
  refine (refMsg_any r _ HM11.out).mono ?_
  rw [HRS.out]
  rintro e w12 ⟨rfl, hb12⟩
  have E12 := Lib.hid (E11.out.trans hb12)
  refine hK.out _ _ hb12 ?_
  clear hK K
  clear hb12
  refine wpAnyH_tk (i := 14) 40 (v := ?_) rfl rfl (by kernel_rfl) (by kernel_rfl) (by kernel_rfl) (by rfl) (fun wq hwq => ?_) ?_
  rotate_left
  · (have hx := HCC.out; go_simp <;> with_reducible rfl)
  simp only [List.setIfInBounds_toArray, List.set_cons_zero, List.set_cons_succ]
  refine wpAnyH_tk (i := 15) 41 (v := ?_) rfl rfl (by kernel_rfl) (by kernel_rfl) (by kernel_rfl) (by rfl) (fun wq hwq => ?_) ?_
  rotate_left
  · (go_simp <;> with_reducible rfl)
  simp only [List.setIfInBounds_toArray, List.set_cons_zero, List.set_cons_succ]
  refine wpAnyH_tk (i := 16) 4 (v := ?_) rfl rfl (by kernel_rfl) (by kernel_rfl) (by kernel_rfl) (by rfl) (fun wq hwq => ?_) ?_
  rotate_left
  · (go_simp <;> with_reducible rfl)
  simp only [List.setIfInBounds_toArray, List.set_cons_zero, List.set_cons_succ]
  refine wpAnyH_done (by kernel_rfl) ?_ _
  refine NoPanic.normal ?_
  go_wp2
  go_ret
  exact ⟨rfl, E12.out⟩

end Go.Proofs.Ytggjpjpemgpeeaa
