/-
  The walk of the law MsgUnlike.
-/
import Derived.Test.YtggjpjpemgpeeaaAwake12
import Derived.Test.YtggjpjpemgpeeaaWalksH5
import Derived.Test.YtggjpjpemgpeeaaExt
namespace Go.Proofs.Ytggjpjpemgpeeaa
open Go.RowKit



set_option maxRecDepth 100000 in
set_option maxHeartbeats 8000000 in
theorem msgUnlike_walk (r r' : Rm) (w : World) (h : MsgAt w r) (h' : MsgAt w r') : Calls Try.prog 7 #[.agg r.cells, .agg r'.cells] w fun e w' => e = .returned (.bool true) ∧ Below w.heap.size w w' := by
  show Calls Try.prog 7 #[.agg #[.int .i64 r.m.kind, .int .i64 r.m.frm, .int .i64 r.m.to, .int .i64 r.m.epoch, .int .i64 r.m.ent.seq, .int .i64 r.m.ent.client, .int .i64 r.m.ent.num, .int .i64 r.m.ent.op, .string (strB r.m.ent.key), .int .i64 r.m.ent.size, .int .u32 (r.m.ent.sum : Int), .slice r.loc r.el r.c, .int .i64 r.m.e, .slice r.fa r.fl r.fc, .slice r.ka r.kl r.kc, .int .i64 r.m.cep, .slice r.ma r.ml r.mc, .slice r.sa r.sl r.sc, .slice r.na r.nl r.nc], .agg #[.int .i64 r'.m.kind, .int .i64 r'.m.frm, .int .i64 r'.m.to, .int .i64 r'.m.epoch, .int .i64 r'.m.ent.seq, .int .i64 r'.m.ent.client, .int .i64 r'.m.ent.num, .int .i64 r'.m.ent.op, .string (strB r'.m.ent.key), .int .i64 r'.m.ent.size, .int .u32 (r'.m.ent.sum : Int), .slice r'.loc r'.el r'.c, .int .i64 r'.m.e, .slice r'.fa r'.fl r'.fc, .slice r'.ka r'.kl r'.kc, .int .i64 r'.m.cep, .slice r'.ma r'.ml r'.mc, .slice r'.sa r'.sl r'.sc, .slice r'.na r'.nl r'.nc]] w _
  have HX0 : Hid (Box ((w.alloc (.cells #[.int .i64 r.m.kind, .int .i64 r.m.frm, .int .i64 r.m.to, .int .i64 r.m.epoch, .int .i64 r.m.ent.seq, .int .i64 r.m.ent.client, .int .i64 r.m.ent.num, .int .i64 r.m.ent.op, .string (strB r.m.ent.key), .int .i64 r.m.ent.size, .int .u32 (r.m.ent.sum : Int), .slice r.loc r.el r.c, .int .i64 r.m.e, .slice r.fa r.fl r.fc, .slice r.ka r.kl r.kc, .int .i64 r.m.cep, .slice r.ma r.ml r.mc, .slice r.sa r.sl r.sc, .slice r.na r.nl r.nc] 35)).alloc (.cells #[.int .i64 r'.m.kind, .int .i64 r'.m.frm, .int .i64 r'.m.to, .int .i64 r'.m.epoch, .int .i64 r'.m.ent.seq, .int .i64 r'.m.ent.client, .int .i64 r'.m.ent.num, .int .i64 r'.m.ent.op, .string (strB r'.m.ent.key), .int .i64 r'.m.ent.size, .int .u32 (r'.m.ent.sum : Int), .slice r'.loc r'.el r'.c, .int .i64 r'.m.e, .slice r'.fa r'.fl r'.fc, .slice r'.ka r'.kl r'.kc, .int .i64 r'.m.cep, .slice r'.ma r'.ml r'.mc, .slice r'.sa r'.sl r'.sc, .slice r'.na r'.nl r'.nc] 35)) w.heap.size r.cells) := (box_new w r.cells 35 _ rfl).below (below_one _ _)
  have HY0 : Hid (Box ((w.alloc (.cells #[.int .i64 r.m.kind, .int .i64 r.m.frm, .int .i64 r.m.to, .int .i64 r.m.epoch, .int .i64 r.m.ent.seq, .int .i64 r.m.ent.client, .int .i64 r.m.ent.num, .int .i64 r.m.ent.op, .string (strB r.m.ent.key), .int .i64 r.m.ent.size, .int .u32 (r.m.ent.sum : Int), .slice r.loc r.el r.c, .int .i64 r.m.e, .slice r.fa r.fl r.fc, .slice r.ka r.kl r.kc, .int .i64 r.m.cep, .slice r.ma r.ml r.mc, .slice r.sa r.sl r.sc, .slice r.na r.nl r.nc] 35)).alloc (.cells #[.int .i64 r'.m.kind, .int .i64 r'.m.frm, .int .i64 r'.m.to, .int .i64 r'.m.epoch, .int .i64 r'.m.ent.seq, .int .i64 r'.m.ent.client, .int .i64 r'.m.ent.num, .int .i64 r'.m.ent.op, .string (strB r'.m.ent.key), .int .i64 r'.m.ent.size, .int .u32 (r'.m.ent.sum : Int), .slice r'.loc r'.el r'.c, .int .i64 r'.m.e, .slice r'.fa r'.fl r'.fc, .slice r'.ka r'.kl r'.kc, .int .i64 r'.m.cep, .slice r'.ma r'.ml r'.mc, .slice r'.sa r'.sl r'.sc, .slice r'.na r'.nl r'.nc] 35)) (w.heap.size + 1) r'.cells) := box_new (w.alloc (.cells #[.int .i64 r.m.kind, .int .i64 r.m.frm, .int .i64 r.m.to, .int .i64 r.m.epoch, .int .i64 r.m.ent.seq, .int .i64 r.m.ent.client, .int .i64 r.m.ent.num, .int .i64 r.m.ent.op, .string (strB r.m.ent.key), .int .i64 r.m.ent.size, .int .u32 (r.m.ent.sum : Int), .slice r.loc r.el r.c, .int .i64 r.m.e, .slice r.fa r.fl r.fc, .slice r.ka r.kl r.kc, .int .i64 r.m.cep, .slice r.ma r.ml r.mc, .slice r.sa r.sl r.sc, .slice r.na r.nl r.nc] 35)) r'.cells 35 _ (by simp)
  have E0 : Hid (Ext w ((w.alloc (.cells #[.int .i64 r.m.kind, .int .i64 r.m.frm, .int .i64 r.m.to, .int .i64 r.m.epoch, .int .i64 r.m.ent.seq, .int .i64 r.m.ent.client, .int .i64 r.m.ent.num, .int .i64 r.m.ent.op, .string (strB r.m.ent.key), .int .i64 r.m.ent.size, .int .u32 (r.m.ent.sum : Int), .slice r.loc r.el r.c, .int .i64 r.m.e, .slice r.fa r.fl r.fc, .slice r.ka r.kl r.kc, .int .i64 r.m.cep, .slice r.ma r.ml r.mc, .slice r.sa r.sl r.sc, .slice r.na r.nl r.nc] 35)).alloc (.cells #[.int .i64 r'.m.kind, .int .i64 r'.m.frm, .int .i64 r'.m.to, .int .i64 r'.m.epoch, .int .i64 r'.m.ent.seq, .int .i64 r'.m.ent.client, .int .i64 r'.m.ent.num, .int .i64 r'.m.ent.op, .string (strB r'.m.ent.key), .int .i64 r'.m.ent.size, .int .u32 (r'.m.ent.sum : Int), .slice r'.loc r'.el r'.c, .int .i64 r'.m.e, .slice r'.fa r'.fl r'.fc, .slice r'.ka r'.kl r'.kc, .int .i64 r'.m.cep, .slice r'.ma r'.ml r'.mc, .slice r'.sa r'.sl r'.sc, .slice r'.na r'.nl r'.nc] 35))) := (below_one w _).alloc (by simp) _
  have HM0 := Lib.hid (h.below E0.out)
  have HN0 := Lib.hid (h'.below E0.out)
  have HWF := Lib.hid h.wf
  have HWF' := Lib.hid h'.wf
  clear h h'
  go_enter Try.func7, Try.ntmps7
  go_wp2_with (first | refine wpList_ldM _ _ _ rfl rfl rfl rfl HX0.out ?_ | (refine wpList_ung (by rfl) ?_; refine wpList_ldM _ _ _ rfl rfl rfl rfl HX0.out ?_) | refine wpList_ldM _ _ _ rfl rfl rfl rfl HY0.out ?_ | (refine wpList_ung (by rfl) ?_; refine wpList_ldM _ _ _ rfl rfl rfl rfl HY0.out ?_))
  generalize ((w.alloc (.cells #[.int .i64 r.m.kind, .int .i64 r.m.frm, .int .i64 r.m.to, .int .i64 r.m.epoch, .int .i64 r.m.ent.seq, .int .i64 r.m.ent.client, .int .i64 r.m.ent.num, .int .i64 r.m.ent.op, .string (strB r.m.ent.key), .int .i64 r.m.ent.size, .int .u32 (r.m.ent.sum : Int), .slice r.loc r.el r.c, .int .i64 r.m.e, .slice r.fa r.fl r.fc, .slice r.ka r.kl r.kc, .int .i64 r.m.cep, .slice r.ma r.ml r.mc, .slice r.sa r.sl r.sc, .slice r.na r.nl r.nc] 35)).alloc (.cells #[.int .i64 r'.m.kind, .int .i64 r'.m.frm, .int .i64 r'.m.to, .int .i64 r'.m.epoch, .int .i64 r'.m.ent.seq, .int .i64 r'.m.ent.client, .int .i64 r'.m.ent.num, .int .i64 r'.m.ent.op, .string (strB r'.m.ent.key), .int .i64 r'.m.ent.size, .int .u32 (r'.m.ent.sum : Int), .slice r'.loc r'.el r'.c, .int .i64 r'.m.e, .slice r'.fa r'.fl r'.fc, .slice r'.ka r'.kl r'.kc, .int .i64 r'.m.cep, .slice r'.ma r'.ml r'.mc, .slice r'.sa r'.sl r'.sc, .slice r'.na r'.nl r'.nc] 35)) = w0 at *
  refine (light_any r _).mono ?_
  rintro e w1 ⟨bb, rfl, hb⟩
  have E1 := Lib.hid (E0.out.trans hb)
  have HX1 := Lib.hid (HX0.out.below hb)
  have HY1 := Lib.hid (HY0.out.below hb)
  have HM1 := Lib.hid (HM0.out.below hb)
  have HN1 := Lib.hid (HN0.out.below hb)
  clear hb E0 HX0 HY0 HM0 HN0
  cases bb
  · go_wp2_with fail
    refine (awake12 _).mono ?_
    rintro e w2 ⟨rfl, hb⟩
    have E2 := Lib.hid (E1.out.trans hb)
    clear hb E1 
    go_wp2
    go_ret
    exact ⟨rfl, E2.out⟩
  go_wp2_with (first | refine wpList_ldM _ _ _ rfl rfl rfl rfl HX1.out ?_ | (refine wpList_ung (by rfl) ?_; refine wpList_ldM _ _ _ rfl rfl rfl rfl HX1.out ?_) | refine wpList_ldM _ _ _ rfl rfl rfl rfl HY1.out ?_ | (refine wpList_ung (by rfl) ?_; refine wpList_ldM _ _ _ rfl rfl rfl rfl HY1.out ?_))
  refine (light_any r' _).mono ?_
  rintro e w2 ⟨bb, rfl, hb⟩
  have E2 := Lib.hid (E1.out.trans hb)
  have HX2 := Lib.hid (HX1.out.below hb)
  have HY2 := Lib.hid (HY1.out.below hb)
  have HM2 := Lib.hid (HM1.out.below hb)
  have HN2 := Lib.hid (HN1.out.below hb)
  clear hb E1 HX1 HY1 HM1 HN1
  cases bb
  · go_wp2_with fail
    refine (awake12 _).mono ?_
    rintro e w3 ⟨rfl, hb⟩
    have E3 := Lib.hid (E2.out.trans hb)
    clear hb E2 
    go_wp2
    go_ret
    exact ⟨rfl, E3.out⟩
  go_wp2_with (first | refine wpList_ldM _ _ _ rfl rfl rfl rfl HX2.out ?_ | (refine wpList_ung (by rfl) ?_; refine wpList_ldM _ _ _ rfl rfl rfl rfl HX2.out ?_) | refine wpList_ldM _ _ _ rfl rfl rfl rfl HY2.out ?_ | (refine wpList_ung (by rfl) ?_; refine wpList_ldM _ _ _ rfl rfl rfl rfl HY2.out ?_))
  cases hs : sndMg r.m
  · have HRS := Lib.hid hs
    clear hs
    refine (encMsg_no r _ HM2.out HRS.out).mono ?_
    rintro e w3 ⟨rfl, hb⟩
    have E3 := Lib.hid (E2.out.trans hb)
    have HX3 := Lib.hid (HX2.out.below hb)
    have HY3 := Lib.hid (HY2.out.below hb)
    have HM3 := Lib.hid (HM2.out.below hb)
    have HN3 := Lib.hid (HN2.out.below hb)
    clear hb E2 HX2 HY2 HM2 HN2
    go_wp2_with (first | refine wpList_ldM _ _ _ rfl rfl rfl rfl HX3.out ?_ | (refine wpList_ung (by rfl) ?_; refine wpList_ldM _ _ _ rfl rfl rfl rfl HX3.out ?_) | refine wpList_ldM _ _ _ rfl rfl rfl rfl HY3.out ?_ | (refine wpList_ung (by rfl) ?_; refine wpList_ldM _ _ _ rfl rfl rfl rfl HY3.out ?_))
    cases hs' : sndMg r'.m
    · have HRS' := Lib.hid hs'
      clear hs'
      refine (encMsg_no r' _ HN3.out HRS'.out).mono ?_
      rintro e w4 ⟨rfl, hb⟩
      have E4 := Lib.hid (E3.out.trans hb)
      clear hb E3 
      clear HX3 HY3 HM3 HN3
      go_wp2_with fail
      refine wp_region_ext (by kernel_rfl) ?_
      have hb := Below.drew (Below.refl w4.heap.size w4)
      have E8 := Lib.hid (E4.out.trans hb)
      clear hb E4 
      generalize w4.drew = w8 at *
      refine wpAnyH_one (i := 0) rfl (by kernel_rfl) (by rfl) (fun K hK => ?_)
      go_simp
      go_at_call 12
      refine (awake12 _).mono ?_
      rintro e w9 ⟨rfl, hb9⟩
      have hb := hb9
      have E9 := Lib.hid (E8.out.trans hb)
      clear hb E8 
      refine hK.out _ _ hb9 ?_
      clear hK K
      clear hb9
      refine wpAnyH_tk (i := 1) 29 (v := ?_) rfl rfl (by kernel_rfl) (by kernel_rfl) (by kernel_rfl) (by rfl) (fun wq hwq => ?_) ?_
      rotate_left
      · (go_simp <;> with_reducible rfl)
      simp only [List.setIfInBounds_toArray, List.set_cons_zero, List.set_cons_succ]
      refine wpAnyH_tk (i := 2) 30 (v := ?_) rfl rfl (by kernel_rfl) (by kernel_rfl) (by kernel_rfl) (by rfl) (fun wq hwq => ?_) ?_
      rotate_left
      · (go_simp <;> with_reducible rfl)
      simp only [List.setIfInBounds_toArray, List.set_cons_zero, List.set_cons_succ]
      refine wpAnyH_tk (i := 3) 31 (v := ?_) rfl rfl (by kernel_rfl) (by kernel_rfl) (by kernel_rfl) (by rfl) (fun wq hwq => ?_) ?_
      rotate_left
      · (go_simp <;> with_reducible rfl)
      simp only [List.setIfInBounds_toArray, List.set_cons_zero, List.set_cons_succ]
      refine wpAnyH_tk (i := 4) 32 (v := ?_) rfl rfl (by kernel_rfl) (by kernel_rfl) (by kernel_rfl) (by rfl) (fun wq hwq => ?_) ?_
      rotate_left
      · (go_simp <;> with_reducible rfl)
      simp only [List.setIfInBounds_toArray, List.set_cons_zero, List.set_cons_succ]
      refine wpAnyH_not (i := 5) 33 rfl rfl (by kernel_rfl) (by kernel_rfl) (by kernel_rfl) (by rfl) ?_
      simp only [List.setIfInBounds_toArray, List.set_cons_zero, List.set_cons_succ]
      refine wpAnyH_not (i := 6) 34 rfl rfl (by kernel_rfl) (by kernel_rfl) (by kernel_rfl) (by rfl) ?_
      simp only [List.setIfInBounds_toArray, List.set_cons_zero, List.set_cons_succ]
      refine wpAnyH_tk (i := 7) 35 (v := ?_) rfl rfl (by kernel_rfl) (by kernel_rfl) (by kernel_rfl) (by rfl) (fun wq hwq => ?_) ?_
      rotate_left
      · (go_simp <;> with_reducible rfl)
      simp only [List.setIfInBounds_toArray, List.set_cons_zero, List.set_cons_succ]
      refine wpAnyH_tk (i := 8) 36 (v := ?_) rfl rfl (by kernel_rfl) (by kernel_rfl) (by kernel_rfl) (by rfl) (fun wq hwq => ?_) ?_
      rotate_left
      · (go_simp <;> with_reducible rfl)
      simp only [List.setIfInBounds_toArray, List.set_cons_zero, List.set_cons_succ]
      refine wpAnyH_not (i := 9) 37 rfl rfl (by kernel_rfl) (by kernel_rfl) (by kernel_rfl) (by rfl) ?_
      simp only [List.setIfInBounds_toArray, List.set_cons_zero, List.set_cons_succ]
      refine wpAnyH_not (i := 10) 38 rfl rfl (by kernel_rfl) (by kernel_rfl) (by kernel_rfl) (by rfl) ?_
      simp only [List.setIfInBounds_toArray, List.set_cons_zero, List.set_cons_succ]
      refine wpAnyH_not (i := 11) 39 rfl rfl (by kernel_rfl) (by kernel_rfl) (by kernel_rfl) (by rfl) ?_
      simp only [List.setIfInBounds_toArray, List.set_cons_zero, List.set_cons_succ]
      refine wpAnyH_not (i := 12) 40 rfl rfl (by kernel_rfl) (by kernel_rfl) (by kernel_rfl) (by rfl) ?_
      simp only [List.setIfInBounds_toArray, List.set_cons_zero, List.set_cons_succ]
      refine wpAnyH_not (i := 13) 41 rfl rfl (by kernel_rfl) (by kernel_rfl) (by kernel_rfl) (by rfl) ?_
      simp only [List.setIfInBounds_toArray, List.set_cons_zero, List.set_cons_succ]
      refine wpAnyH_not (i := 14) 42 rfl rfl (by kernel_rfl) (by kernel_rfl) (by kernel_rfl) (by rfl) ?_
      simp only [List.setIfInBounds_toArray, List.set_cons_zero, List.set_cons_succ]
      refine wpAnyH_not (i := 15) 43 rfl rfl (by kernel_rfl) (by kernel_rfl) (by kernel_rfl) (by rfl) ?_
      simp only [List.setIfInBounds_toArray, List.set_cons_zero, List.set_cons_succ]
      refine wpAnyH_not (i := 16) 44 rfl rfl (by kernel_rfl) (by kernel_rfl) (by kernel_rfl) (by rfl) ?_
      simp only [List.setIfInBounds_toArray, List.set_cons_zero, List.set_cons_succ]
      refine wpAnyH_not (i := 17) 45 rfl rfl (by kernel_rfl) (by kernel_rfl) (by kernel_rfl) (by rfl) ?_
      simp only [List.setIfInBounds_toArray, List.set_cons_zero, List.set_cons_succ]
      refine wpAnyH_tk (i := 18) 46 (v := ?_) rfl rfl (by kernel_rfl) (by kernel_rfl) (by kernel_rfl) (by rfl) (fun wq hwq => ?_) ?_
      rotate_left
      · (go_simp <;> with_reducible rfl)
      simp only [List.setIfInBounds_toArray, List.set_cons_zero, List.set_cons_succ]
      refine wpAnyH_tk (i := 19) 47 (v := ?_) rfl rfl (by kernel_rfl) (by kernel_rfl) (by kernel_rfl) (by rfl) (fun wq hwq => ?_) ?_
      rotate_left
      · (go_simp <;> with_reducible rfl)
      simp only [List.setIfInBounds_toArray, List.set_cons_zero, List.set_cons_succ]
      refine wpAnyH_tk (i := 20) 4 (v := ?_) rfl rfl (by kernel_rfl) (by kernel_rfl) (by kernel_rfl) (by rfl) (fun wq hwq => ?_) ?_
      rotate_left
      · (go_simp <;> with_reducible rfl)
      simp only [List.setIfInBounds_toArray, List.set_cons_zero, List.set_cons_succ]
      refine wpAnyH_done (by kernel_rfl) ?_ _
      refine NoPanic.normal ?_
      go_wp2
      go_ret
      exact ⟨rfl, E9.out⟩
    · have HRS' := Lib.hid hs'
      clear hs'
      refine (encMsg_yes r' _ HN3.out HRS'.out).mono ?_
      rintro e w4 ⟨g4, c4, rfl, _, hb⟩
      have E4 := Lib.hid (E3.out.trans hb)
      clear hb E3 
      clear HX3 HY3 HM3 HN3
      generalize (encMg r'.m).length = q4 at *
      go_wp2_with fail
      refine wp_region_ext (by kernel_rfl) ?_
      have hb := Below.drew (Below.refl w4.heap.size w4)
      have E8 := Lib.hid (E4.out.trans hb)
      clear hb E4 
      generalize w4.drew = w8 at *
      refine wpAnyH_one (i := 0) rfl (by kernel_rfl) (by rfl) (fun K hK => ?_)
      go_simp
      go_at_call 12
      refine (awake12 _).mono ?_
      rintro e w9 ⟨rfl, hb9⟩
      have hb := hb9
      have E9 := Lib.hid (E8.out.trans hb)
      clear hb E8 
      refine hK.out _ _ hb9 ?_
      clear hK K
      clear hb9
      refine wpAnyH_tk (i := 1) 29 (v := ?_) rfl rfl (by kernel_rfl) (by kernel_rfl) (by kernel_rfl) (by rfl) (fun wq hwq => ?_) ?_
      rotate_left
      · (go_simp <;> with_reducible rfl)
      simp only [List.setIfInBounds_toArray, List.set_cons_zero, List.set_cons_succ]
      refine wpAnyH_tk (i := 2) 30 (v := ?_) rfl rfl (by kernel_rfl) (by kernel_rfl) (by kernel_rfl) (by rfl) (fun wq hwq => ?_) ?_
      rotate_left
      · (go_simp <;> with_reducible rfl)
      simp only [List.setIfInBounds_toArray, List.set_cons_zero, List.set_cons_succ]
      refine wpAnyH_tk (i := 3) 31 (v := ?_) rfl rfl (by kernel_rfl) (by kernel_rfl) (by kernel_rfl) (by rfl) (fun wq hwq => ?_) ?_
      rotate_left
      · (go_simp <;> with_reducible rfl)
      simp only [List.setIfInBounds_toArray, List.set_cons_zero, List.set_cons_succ]
      refine wpAnyH_tk (i := 4) 32 (v := ?_) rfl rfl (by kernel_rfl) (by kernel_rfl) (by kernel_rfl) (by rfl) (fun wq hwq => ?_) ?_
      rotate_left
      · (go_simp <;> with_reducible rfl)
      simp only [List.setIfInBounds_toArray, List.set_cons_zero, List.set_cons_succ]
      refine wpAnyH_not (i := 5) 33 rfl rfl (by kernel_rfl) (by kernel_rfl) (by kernel_rfl) (by rfl) ?_
      simp only [List.setIfInBounds_toArray, List.set_cons_zero, List.set_cons_succ]
      refine wpAnyH_not (i := 6) 34 rfl rfl (by kernel_rfl) (by kernel_rfl) (by kernel_rfl) (by rfl) ?_
      simp only [List.setIfInBounds_toArray, List.set_cons_zero, List.set_cons_succ]
      refine wpAnyH_tk (i := 7) 35 (v := ?_) rfl rfl (by kernel_rfl) (by kernel_rfl) (by kernel_rfl) (by rfl) (fun wq hwq => ?_) ?_
      rotate_left
      · (go_simp <;> with_reducible rfl)
      simp only [List.setIfInBounds_toArray, List.set_cons_zero, List.set_cons_succ]
      refine wpAnyH_tk (i := 8) 36 (v := ?_) rfl rfl (by kernel_rfl) (by kernel_rfl) (by kernel_rfl) (by rfl) (fun wq hwq => ?_) ?_
      rotate_left
      · (go_simp <;> with_reducible rfl)
      simp only [List.setIfInBounds_toArray, List.set_cons_zero, List.set_cons_succ]
      refine wpAnyH_not (i := 9) 37 rfl rfl (by kernel_rfl) (by kernel_rfl) (by kernel_rfl) (by rfl) ?_
      simp only [List.setIfInBounds_toArray, List.set_cons_zero, List.set_cons_succ]
      refine wpAnyH_not (i := 10) 38 rfl rfl (by kernel_rfl) (by kernel_rfl) (by kernel_rfl) (by rfl) ?_
      simp only [List.setIfInBounds_toArray, List.set_cons_zero, List.set_cons_succ]
      refine wpAnyH_not (i := 11) 39 rfl rfl (by kernel_rfl) (by kernel_rfl) (by kernel_rfl) (by rfl) ?_
      simp only [List.setIfInBounds_toArray, List.set_cons_zero, List.set_cons_succ]
      refine wpAnyH_not (i := 12) 40 rfl rfl (by kernel_rfl) (by kernel_rfl) (by kernel_rfl) (by rfl) ?_
      simp only [List.setIfInBounds_toArray, List.set_cons_zero, List.set_cons_succ]
      refine wpAnyH_not (i := 13) 41 rfl rfl (by kernel_rfl) (by kernel_rfl) (by kernel_rfl) (by rfl) ?_
      simp only [List.setIfInBounds_toArray, List.set_cons_zero, List.set_cons_succ]
      refine wpAnyH_not (i := 14) 42 rfl rfl (by kernel_rfl) (by kernel_rfl) (by kernel_rfl) (by rfl) ?_
      simp only [List.setIfInBounds_toArray, List.set_cons_zero, List.set_cons_succ]
      refine wpAnyH_not (i := 15) 43 rfl rfl (by kernel_rfl) (by kernel_rfl) (by kernel_rfl) (by rfl) ?_
      simp only [List.setIfInBounds_toArray, List.set_cons_zero, List.set_cons_succ]
      refine wpAnyH_not (i := 16) 44 rfl rfl (by kernel_rfl) (by kernel_rfl) (by kernel_rfl) (by rfl) ?_
      simp only [List.setIfInBounds_toArray, List.set_cons_zero, List.set_cons_succ]
      refine wpAnyH_not (i := 17) 45 rfl rfl (by kernel_rfl) (by kernel_rfl) (by kernel_rfl) (by rfl) ?_
      simp only [List.setIfInBounds_toArray, List.set_cons_zero, List.set_cons_succ]
      refine wpAnyH_tk (i := 18) 46 (v := ?_) rfl rfl (by kernel_rfl) (by kernel_rfl) (by kernel_rfl) (by rfl) (fun wq hwq => ?_) ?_
      rotate_left
      · (go_simp <;> with_reducible rfl)
      simp only [List.setIfInBounds_toArray, List.set_cons_zero, List.set_cons_succ]
      refine wpAnyH_tk (i := 19) 47 (v := ?_) rfl rfl (by kernel_rfl) (by kernel_rfl) (by kernel_rfl) (by rfl) (fun wq hwq => ?_) ?_
      rotate_left
      · (go_simp <;> with_reducible rfl)
      simp only [List.setIfInBounds_toArray, List.set_cons_zero, List.set_cons_succ]
      refine wpAnyH_tk (i := 20) 4 (v := ?_) rfl rfl (by kernel_rfl) (by kernel_rfl) (by kernel_rfl) (by rfl) (fun wq hwq => ?_) ?_
      rotate_left
      · (go_simp <;> with_reducible rfl)
      simp only [List.setIfInBounds_toArray, List.set_cons_zero, List.set_cons_succ]
      refine wpAnyH_done (by kernel_rfl) ?_ _
      refine NoPanic.normal ?_
      go_wp2
      go_ret
      exact ⟨rfl, E9.out⟩
  · have HRS := Lib.hid hs
    clear hs
    refine (encMsg_yes r _ HM2.out HRS.out).mono ?_
    rintro e w3 ⟨g3, c3, rfl, ho, hb⟩
    have HO3 := Lib.hid ho.seenAt
    clear ho
    have E3 := Lib.hid (E2.out.trans hb)
    have HX3 := Lib.hid (HX2.out.below hb)
    have HY3 := Lib.hid (HY2.out.below hb)
    have HM3 := Lib.hid (HM2.out.below hb)
    have HN3 := Lib.hid (HN2.out.below hb)
    clear hb E2 HX2 HY2 HM2 HN2
    obtain ⟨q3, hq3⟩ : ∃ q, (encMg r.m).length = q := ⟨_, rfl⟩
    have HQ3 := Lib.hid hq3
    rw [hq3]
    clear hq3
    go_wp2_with (first | refine wpList_ldM _ _ _ rfl rfl rfl rfl HX3.out ?_ | (refine wpList_ung (by rfl) ?_; refine wpList_ldM _ _ _ rfl rfl rfl rfl HX3.out ?_) | refine wpList_ldM _ _ _ rfl rfl rfl rfl HY3.out ?_ | (refine wpList_ung (by rfl) ?_; refine wpList_ldM _ _ _ rfl rfl rfl rfl HY3.out ?_))
    cases hs' : sndMg r'.m
    · have HRS' := Lib.hid hs'
      clear hs'
      refine (encMsg_no r' _ HN3.out HRS'.out).mono ?_
      rintro e w4 ⟨rfl, hb⟩
      have E4 := Lib.hid (E3.out.trans hb)
      clear hb E3 
      clear HX3 HY3 HM3 HN3 HO3
      go_wp2_with fail
      refine wp_region_ext (by kernel_rfl) ?_
      have hb := Below.drew (Below.refl w4.heap.size w4)
      have E8 := Lib.hid (E4.out.trans hb)
      clear hb E4 
      generalize w4.drew = w8 at *
      refine wpAnyH_one (i := 0) rfl (by kernel_rfl) (by rfl) (fun K hK => ?_)
      go_simp
      go_at_call 12
      refine (awake12 _).mono ?_
      rintro e w9 ⟨rfl, hb9⟩
      have hb := hb9
      have E9 := Lib.hid (E8.out.trans hb)
      clear hb E8 
      refine hK.out _ _ hb9 ?_
      clear hK K
      clear hb9
      refine wpAnyH_tk (i := 1) 29 (v := ?_) rfl rfl (by kernel_rfl) (by kernel_rfl) (by kernel_rfl) (by rfl) (fun wq hwq => ?_) ?_
      rotate_left
      · (go_simp <;> with_reducible rfl)
      simp only [List.setIfInBounds_toArray, List.set_cons_zero, List.set_cons_succ]
      refine wpAnyH_tk (i := 2) 30 (v := ?_) rfl rfl (by kernel_rfl) (by kernel_rfl) (by kernel_rfl) (by rfl) (fun wq hwq => ?_) ?_
      rotate_left
      · (go_simp <;> with_reducible rfl)
      simp only [List.setIfInBounds_toArray, List.set_cons_zero, List.set_cons_succ]
      refine wpAnyH_tk (i := 3) 31 (v := ?_) rfl rfl (by kernel_rfl) (by kernel_rfl) (by kernel_rfl) (by rfl) (fun wq hwq => ?_) ?_
      rotate_left
      · (go_simp <;> with_reducible rfl)
      simp only [List.setIfInBounds_toArray, List.set_cons_zero, List.set_cons_succ]
      refine wpAnyH_tk (i := 4) 32 (v := ?_) rfl rfl (by kernel_rfl) (by kernel_rfl) (by kernel_rfl) (by rfl) (fun wq hwq => ?_) ?_
      rotate_left
      · (go_simp <;> with_reducible rfl)
      simp only [List.setIfInBounds_toArray, List.set_cons_zero, List.set_cons_succ]
      refine wpAnyH_tk (i := 5) 33 (v := ?_) rfl rfl (by kernel_rfl) (by kernel_rfl) (by kernel_rfl) (by rfl) (fun wq hwq => ?_) ?_
      rotate_left
      · (go_simp <;> with_reducible rfl)
      simp only [List.setIfInBounds_toArray, List.set_cons_zero, List.set_cons_succ]
      refine wpAnyH_tk (i := 6) 34 (v := ?_) rfl rfl (by kernel_rfl) (by kernel_rfl) (by kernel_rfl) (by rfl) (fun wq hwq => ?_) ?_
      rotate_left
      · (go_simp <;> with_reducible rfl)
      simp only [List.setIfInBounds_toArray, List.set_cons_zero, List.set_cons_succ]
      refine wpAnyH_tk (i := 7) 35 (v := ?_) rfl rfl (by kernel_rfl) (by kernel_rfl) (by kernel_rfl) (by rfl) (fun wq hwq => ?_) ?_
      rotate_left
      · (go_simp <;> with_reducible rfl)
      simp only [List.setIfInBounds_toArray, List.set_cons_zero, List.set_cons_succ]
      refine wpAnyH_tk (i := 8) 36 (v := ?_) rfl rfl (by kernel_rfl) (by kernel_rfl) (by kernel_rfl) (by rfl) (fun wq hwq => ?_) ?_
      rotate_left
      · (go_simp <;> with_reducible rfl)
      simp only [List.setIfInBounds_toArray, List.set_cons_zero, List.set_cons_succ]
      refine wpAnyH_not (i := 9) 37 rfl rfl (by kernel_rfl) (by kernel_rfl) (by kernel_rfl) (by rfl) ?_
      simp only [List.setIfInBounds_toArray, List.set_cons_zero, List.set_cons_succ]
      refine wpAnyH_not (i := 10) 38 rfl rfl (by kernel_rfl) (by kernel_rfl) (by kernel_rfl) (by rfl) ?_
      simp only [List.setIfInBounds_toArray, List.set_cons_zero, List.set_cons_succ]
      refine wpAnyH_not (i := 11) 39 rfl rfl (by kernel_rfl) (by kernel_rfl) (by kernel_rfl) (by rfl) ?_
      simp only [List.setIfInBounds_toArray, List.set_cons_zero, List.set_cons_succ]
      refine wpAnyH_not (i := 12) 40 rfl rfl (by kernel_rfl) (by kernel_rfl) (by kernel_rfl) (by rfl) ?_
      simp only [List.setIfInBounds_toArray, List.set_cons_zero, List.set_cons_succ]
      refine wpAnyH_not (i := 13) 41 rfl rfl (by kernel_rfl) (by kernel_rfl) (by kernel_rfl) (by rfl) ?_
      simp only [List.setIfInBounds_toArray, List.set_cons_zero, List.set_cons_succ]
      refine wpAnyH_not (i := 14) 42 rfl rfl (by kernel_rfl) (by kernel_rfl) (by kernel_rfl) (by rfl) ?_
      simp only [List.setIfInBounds_toArray, List.set_cons_zero, List.set_cons_succ]
      refine wpAnyH_not (i := 15) 43 rfl rfl (by kernel_rfl) (by kernel_rfl) (by kernel_rfl) (by rfl) ?_
      simp only [List.setIfInBounds_toArray, List.set_cons_zero, List.set_cons_succ]
      refine wpAnyH_not (i := 16) 44 rfl rfl (by kernel_rfl) (by kernel_rfl) (by kernel_rfl) (by rfl) ?_
      simp only [List.setIfInBounds_toArray, List.set_cons_zero, List.set_cons_succ]
      refine wpAnyH_not (i := 17) 45 rfl rfl (by kernel_rfl) (by kernel_rfl) (by kernel_rfl) (by rfl) ?_
      simp only [List.setIfInBounds_toArray, List.set_cons_zero, List.set_cons_succ]
      refine wpAnyH_tk (i := 18) 46 (v := ?_) rfl rfl (by kernel_rfl) (by kernel_rfl) (by kernel_rfl) (by rfl) (fun wq hwq => ?_) ?_
      rotate_left
      · (go_simp <;> with_reducible rfl)
      simp only [List.setIfInBounds_toArray, List.set_cons_zero, List.set_cons_succ]
      refine wpAnyH_tk (i := 19) 47 (v := ?_) rfl rfl (by kernel_rfl) (by kernel_rfl) (by kernel_rfl) (by rfl) (fun wq hwq => ?_) ?_
      rotate_left
      · (go_simp <;> with_reducible rfl)
      simp only [List.setIfInBounds_toArray, List.set_cons_zero, List.set_cons_succ]
      refine wpAnyH_tk (i := 20) 4 (v := ?_) rfl rfl (by kernel_rfl) (by kernel_rfl) (by kernel_rfl) (by rfl) (fun wq hwq => ?_) ?_
      rotate_left
      · (go_simp <;> with_reducible rfl)
      simp only [List.setIfInBounds_toArray, List.set_cons_zero, List.set_cons_succ]
      refine wpAnyH_done (by kernel_rfl) ?_ _
      refine NoPanic.normal ?_
      go_wp2
      go_ret
      exact ⟨rfl, E9.out⟩
    · have HRS' := Lib.hid hs'
      clear hs'
      refine (encMsg_yes r' _ HN3.out HRS'.out).mono ?_
      rintro e w4 ⟨g4, c4, rfl, ho, hb⟩
      have HP4 := Lib.hid ho.seenAt
      clear ho
      have E4 := Lib.hid (E3.out.trans hb)
      have HX4 := Lib.hid (HX3.out.below hb)
      have HY4 := Lib.hid (HY3.out.below hb)
      have HM4 := Lib.hid (HM3.out.below hb)
      have HN4 := Lib.hid (HN3.out.below hb)
      have HO4 := Lib.hid (HO3.out.below hb)
      clear hb E3 HX3 HY3 HM3 HN3 HO3
      obtain ⟨q4, hq4⟩ : ∃ q, (encMg r'.m).length = q := ⟨_, rfl⟩
      have HQ4 := Lib.hid hq4
      rw [hq4]
      clear hq4
      have HSM := Lib.hid (sndMg_is HRS.out)
      have HSM' := Lib.hid (sndMg_is HRS'.out)
      have HF0 : ((strB (encMg r.m)).toList == (strB (encMg r'.m)).toList) = decide (encMg r.m = encMg r'.m) := strB_beq (encMg_bytes HWF.out HSM.out) (encMg_bytes HWF'.out HSM'.out)
      obtain ⟨ans, hans⟩ : ∃ q, decide (encMg r.m = encMg r'.m) = q := ⟨_, rfl⟩
      rw [hans] at HF0
      have HF := Lib.hid HF0
      have HANS := Lib.hid hans
      have HBB : Hid ((ans == ans) = true) := by show _ = _; simp
      clear hans HF0
      have ST := Lib.hid (fun (w' : World) x c (h : SeenAt w' x c (encMg r.m)) => str_at h HQ3.out)
      have ST' := Lib.hid (fun (w' : World) x c (h : SeenAt w' x c (encMg r'.m)) => str_at h HQ4.out)
      generalize strB (encMg r.m) = sr at *
      generalize strB (encMg r'.m) = sr' at *
      go_wp2_with fail
      refine wp_region_ext (by kernel_rfl) ?_
      have hb := Below.drew (Below.refl w4.heap.size w4)
      have E8 := Lib.hid (E4.out.trans hb)
      have HX8 := Lib.hid (HX4.out.below hb)
      have HY8 := Lib.hid (HY4.out.below hb)
      have HM8 := Lib.hid (HM4.out.below hb)
      have HN8 := Lib.hid (HN4.out.below hb)
      have HO8 := Lib.hid (HO4.out.below hb)
      have HP8 := Lib.hid (HP4.out.below hb)
      clear hb E4 HX4 HY4 HM4 HN4 HO4 HP4
      generalize w4.drew = w8 at *
      refine wpAnyH_one (i := 0) rfl (by kernel_rfl) (by rfl) (fun K hK => ?_)
      go_simp
      go_at_call 12
      refine (awake12 _).mono ?_
      rintro e w9 ⟨rfl, hb9⟩
      have hb := hb9
      have E9 := Lib.hid (E8.out.trans hb)
      have HX9 := Lib.hid (HX8.out.below hb)
      have HY9 := Lib.hid (HY8.out.below hb)
      have HM9 := Lib.hid (HM8.out.below hb)
      have HN9 := Lib.hid (HN8.out.below hb)
      have HO9 := Lib.hid (HO8.out.below hb)
      have HP9 := Lib.hid (HP8.out.below hb)
      clear hb E8 HX8 HY8 HM8 HN8 HO8 HP8
      refine hK.out _ _ hb9 ?_
      clear hK K
      clear hb9
      refine wpAnyH_tk (i := 1) 29 (v := ?_) rfl rfl (by kernel_rfl) (by kernel_rfl) (by kernel_rfl) (by rfl) (fun wq hwq => ?_) ?_
      rotate_left
      · (go_simp <;> with_reducible rfl)
      simp only [List.setIfInBounds_toArray, List.set_cons_zero, List.set_cons_succ]
      refine wpAnyH_tk (i := 2) 30 (v := ?_) rfl rfl (by kernel_rfl) (by kernel_rfl) (by kernel_rfl) (by rfl) (fun wq hwq => ?_) ?_
      rotate_left
      · (go_simp <;> with_reducible rfl)
      simp only [List.setIfInBounds_toArray, List.set_cons_zero, List.set_cons_succ]
      refine wpAnyH_tk (i := 3) 31 (v := ?_) rfl rfl (by kernel_rfl) (by kernel_rfl) (by kernel_rfl) (by rfl) (fun wq hwq => ?_) ?_
      rotate_left
      · (go_simp <;> with_reducible rfl)
      simp only [List.setIfInBounds_toArray, List.set_cons_zero, List.set_cons_succ]
      refine wpAnyH_tk (i := 4) 32 (v := ?_) rfl rfl (by kernel_rfl) (by kernel_rfl) (by kernel_rfl) (by rfl) (fun wq hwq => ?_) ?_
      rotate_left
      · (go_simp <;> with_reducible rfl)
      simp only [List.setIfInBounds_toArray, List.set_cons_zero, List.set_cons_succ]
      refine wpAnyH_tk (i := 5) 33 (v := ?_) rfl rfl (by kernel_rfl) (by kernel_rfl) (by kernel_rfl) (by rfl) (fun wq hwq => ?_) ?_
      rotate_left
      · (go_simp <;> with_reducible rfl)
      simp only [List.setIfInBounds_toArray, List.set_cons_zero, List.set_cons_succ]
      refine wpAnyH_tk (i := 6) 34 (v := ?_) rfl rfl (by kernel_rfl) (by kernel_rfl) (by kernel_rfl) (by rfl) (fun wq hwq => ?_) ?_
      rotate_left
      · (go_simp <;> with_reducible rfl)
      simp only [List.setIfInBounds_toArray, List.set_cons_zero, List.set_cons_succ]
      refine wpAnyH_tk (i := 7) 35 (v := ?_) rfl rfl (by kernel_rfl) (by kernel_rfl) (by kernel_rfl) (by rfl) (fun wq hwq => ?_) ?_
      rotate_left
      · (go_simp <;> with_reducible rfl)
      simp only [List.setIfInBounds_toArray, List.set_cons_zero, List.set_cons_succ]
      refine wpAnyH_tk (i := 8) 36 (v := ?_) rfl rfl (by kernel_rfl) (by kernel_rfl) (by kernel_rfl) (by rfl) (fun wq hwq => ?_) ?_
      rotate_left
      · (go_simp <;> with_reducible rfl)
      simp only [List.setIfInBounds_toArray, List.set_cons_zero, List.set_cons_succ]
      refine wpAnyH_tk (i := 9) 37 (v := ?_) rfl rfl (by kernel_rfl) (by kernel_rfl) (by kernel_rfl) (by rfl) (fun wq hwq => ?_) ?_
      rotate_left
      · (go_simp <;> with_reducible rfl)
      simp only [List.setIfInBounds_toArray, List.set_cons_zero, List.set_cons_succ]
      refine wpAnyH_tk (i := 10) 38 (v := ?_) rfl rfl (by kernel_rfl) (by kernel_rfl) (by kernel_rfl) (by rfl) (fun wq hwq => ?_) ?_
      rotate_left
      · (have hx := ST.out wq _ _ (HO9.out.below hwq); go_simp <;> with_reducible rfl)
      simp only [List.setIfInBounds_toArray, List.set_cons_zero, List.set_cons_succ]
      refine wpAnyH_tk (i := 11) 39 (v := ?_) rfl rfl (by kernel_rfl) (by kernel_rfl) (by kernel_rfl) (by rfl) (fun wq hwq => ?_) ?_
      rotate_left
      · (go_simp <;> with_reducible rfl)
      simp only [List.setIfInBounds_toArray, List.set_cons_zero, List.set_cons_succ]
      refine wpAnyH_tk (i := 12) 40 (v := ?_) rfl rfl (by kernel_rfl) (by kernel_rfl) (by kernel_rfl) (by rfl) (fun wq hwq => ?_) ?_
      rotate_left
      · (have hx := ST'.out wq _ _ (HP9.out.below hwq); go_simp <;> with_reducible rfl)
      simp only [List.setIfInBounds_toArray, List.set_cons_zero, List.set_cons_succ]
      refine wpAnyH_tk (i := 13) 41 (v := ?_) rfl rfl (by kernel_rfl) (by kernel_rfl) (by kernel_rfl) (by rfl) (fun wq hwq => ?_) ?_
      rotate_left
      · (have hx := HF.out; go_simp <;> with_reducible rfl)
      simp only [List.setIfInBounds_toArray, List.set_cons_zero, List.set_cons_succ]
      refine wpAnyH_tk (i := 14) 42 (v := .agg r.cells) rfl rfl (by kernel_rfl) (by kernel_rfl) (by kernel_rfl) (by rfl) (fun wq hwq => exec_ldM _ _ _ rfl rfl rfl ((HX9.out).below hwq)) ?_
      simp only [List.setIfInBounds_toArray, List.set_cons_zero, List.set_cons_succ]
      refine wpAnyH_tk (i := 15) 43 (v := .agg r'.cells) rfl rfl (by kernel_rfl) (by kernel_rfl) (by kernel_rfl) (by rfl) (fun wq hwq => exec_ldM _ _ _ rfl rfl rfl ((HY9.out).below hwq)) ?_
      simp only [List.setIfInBounds_toArray, List.set_cons_zero, List.set_cons_succ]
      refine wpAnyH_one (i := 16) rfl (by kernel_rfl) (by rfl) (fun K hK => ?_)
      go_simp
      refine (sameMsg_any r r' _ HM9.out HSM.out HN9.out HSM'.out).mono ?_
      rw [HANS.out]
      rintro e w10 ⟨rfl, hb10⟩
      have E10 := Lib.hid (E9.out.trans hb10)
      refine hK.out _ _ hb10 ?_
      clear hK K
      clear hb10
      refine wpAnyH_tk (i := 17) 45 (v := ?_) rfl rfl (by kernel_rfl) (by kernel_rfl) (by kernel_rfl) (by rfl) (fun wq hwq => ?_) ?_
      rotate_left
      · (have hx := HBB.out; go_simp <;> with_reducible rfl)
      simp only [List.setIfInBounds_toArray, List.set_cons_zero, List.set_cons_succ]
      refine wpAnyH_tk (i := 18) 46 (v := ?_) rfl rfl (by kernel_rfl) (by kernel_rfl) (by kernel_rfl) (by rfl) (fun wq hwq => ?_) ?_
      rotate_left
      · (go_simp <;> with_reducible rfl)
      simp only [List.setIfInBounds_toArray, List.set_cons_zero, List.set_cons_succ]
      refine wpAnyH_tk (i := 19) 47 (v := ?_) rfl rfl (by kernel_rfl) (by kernel_rfl) (by kernel_rfl) (by rfl) (fun wq hwq => ?_) ?_
      rotate_left
      · (go_simp <;> with_reducible rfl)
      simp only [List.setIfInBounds_toArray, List.set_cons_zero, List.set_cons_succ]
      refine wpAnyH_tk (i := 20) 4 (v := ?_) rfl rfl (by kernel_rfl) (by kernel_rfl) (by kernel_rfl) (by rfl) (fun wq hwq => ?_) ?_
      rotate_left
      · (go_simp <;> with_reducible rfl)
      simp only [List.setIfInBounds_toArray, List.set_cons_zero, List.set_cons_succ]
      refine wpAnyH_done (by kernel_rfl) ?_ _
      refine NoPanic.normal ?_
      go_wp2
      go_ret
      exact ⟨rfl, E10.out⟩

end Go.Proofs.Ytggjpjpemgpeeaa
