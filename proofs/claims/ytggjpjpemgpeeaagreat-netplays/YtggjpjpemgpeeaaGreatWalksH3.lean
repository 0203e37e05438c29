/-
  msg.Encode.
-/
import Derived.Test.YtggjpjpemgpeeaaGreatWalksH2
import Derived.Test.YtggjpjpemgpeeaaGreatLd
import Derived.Deep.DeepCutAuto
namespace Go.Proofs.YtggjpjpemgpeeaaGreat
open Go.RowKit


theorem seen_oneB (w : World) : SeenAt (w.alloc (.cells #[.int .u8 1] 5)) (some ⟨w.heap.size, 0, none⟩) 1 [1] := seen_byte w 1 (by omega)



set_option maxRecDepth 100000 in
set_option maxHeartbeats 2000000 in
theorem encMsg_no (r : Rm) (w : World) (h : MsgAt w r) (hno : sndMg r.m = false) : Calls Tryz.prog 19 #[.agg r.cells] w fun e w' => e = .returned (.tuple #[.slice none 0 0, .int .i64 2]) ∧ Below w.heap.size w w' := by
  show Calls Tryz.prog 19 #[.agg #[.int .i64 r.m.kind, .int .i64 r.m.frm, .int .i64 r.m.to, .int .i64 r.m.epoch, .int .i64 r.m.ent.seq, .int .i64 r.m.ent.client, .int .i64 r.m.ent.num, .int .i64 r.m.ent.op, .string (strB r.m.ent.key), .int .i64 r.m.ent.size, .int .u32 (r.m.ent.sum : Int), .slice r.loc r.el r.c, .int .i64 r.m.e, .slice r.fa r.fl r.fc, .slice r.ka r.kl r.kc, .int .i64 r.m.cep, .slice r.ma r.ml r.mc, .slice r.sa r.sl r.sc, .slice r.na r.nl r.nc]] w _
  have HB0 : Hid (Below w.heap.size w (w.alloc (.cells #[.int .i64 r.m.kind, .int .i64 r.m.frm, .int .i64 r.m.to, .int .i64 r.m.epoch, .int .i64 r.m.ent.seq, .int .i64 r.m.ent.client, .int .i64 r.m.ent.num, .int .i64 r.m.ent.op, .string (strB r.m.ent.key), .int .i64 r.m.ent.size, .int .u32 (r.m.ent.sum : Int), .slice r.loc r.el r.c, .int .i64 r.m.e, .slice r.fa r.fl r.fc, .slice r.ka r.kl r.kc, .int .i64 r.m.cep, .slice r.ma r.ml r.mc, .slice r.sa r.sl r.sc, .slice r.na r.nl r.nc] 40))) := below_one w _
  have HX0 : Hid (Box (w.alloc (.cells #[.int .i64 r.m.kind, .int .i64 r.m.frm, .int .i64 r.m.to, .int .i64 r.m.epoch, .int .i64 r.m.ent.seq, .int .i64 r.m.ent.client, .int .i64 r.m.ent.num, .int .i64 r.m.ent.op, .string (strB r.m.ent.key), .int .i64 r.m.ent.size, .int .u32 (r.m.ent.sum : Int), .slice r.loc r.el r.c, .int .i64 r.m.e, .slice r.fa r.fl r.fc, .slice r.ka r.kl r.kc, .int .i64 r.m.cep, .slice r.ma r.ml r.mc, .slice r.sa r.sl r.sc, .slice r.na r.nl r.nc] 40)) w.heap.size #[.int .i64 r.m.kind, .int .i64 r.m.frm, .int .i64 r.m.to, .int .i64 r.m.epoch, .int .i64 r.m.ent.seq, .int .i64 r.m.ent.client, .int .i64 r.m.ent.num, .int .i64 r.m.ent.op, .string (strB r.m.ent.key), .int .i64 r.m.ent.size, .int .u32 (r.m.ent.sum : Int), .slice r.loc r.el r.c, .int .i64 r.m.e, .slice r.fa r.fl r.fc, .slice r.ka r.kl r.kc, .int .i64 r.m.cep, .slice r.ma r.ml r.mc, .slice r.sa r.sl r.sc, .slice r.na r.nl r.nc]) := box_new w _ _ _ rfl
  have HM0 := Lib.hid (h.below HB0.out)
  clear h
  obtain ⟨x0, x1, x2, x3, x4, x5, x6, x7, x8, x9, x10, x11, x12, x13, x14, x15, x16, x17, x18⟩ := box19 HX0.out
  have HN := Lib.hid hno
  clear hno
  go_enter Tryz.func19, Tryz.ntmps19
  go_wp2_with (refine wpList_ldM _ _ _ rfl rfl rfl rfl HX0.out ?_)
  generalize w.alloc (.cells #[.int .i64 r.m.kind, .int .i64 r.m.frm, .int .i64 r.m.to, .int .i64 r.m.epoch, .int .i64 r.m.ent.seq, .int .i64 r.m.ent.client, .int .i64 r.m.ent.num, .int .i64 r.m.ent.op, .string (strB r.m.ent.key), .int .i64 r.m.ent.size, .int .u32 (r.m.ent.sum : Int), .slice r.loc r.el r.c, .int .i64 r.m.e, .slice r.fa r.fl r.fc, .slice r.ka r.kl r.kc, .int .i64 r.m.cep, .slice r.ma r.ml r.mc, .slice r.sa r.sl r.sc, .slice r.na r.nl r.nc] 40) = w0 at *
  refine (msgSound_any r _ HM0.out).mono ?_
  rintro e w1 ⟨rfl, hb1⟩
  have HB1 := Lib.hid (HB0.out.trans (hb1.mono HB0.out.size))
  clear hb1 x0 x1 x2 x3 x4 x5 x6 x7 x8 x9 x10 x11 x12 x13 x14 x15 x16 x17 x18
  rw [HN.out]
  go_wp2
  go_ret2
  exact ⟨rfl, HB1.out⟩

set_option maxRecDepth 100000 in
set_option maxHeartbeats 20000000 in
theorem encMsg_yes (r : Rm) (w : World) (h : MsgAt w r) (hyes : sndMg r.m = true) : Calls Tryz.prog 19 #[.agg r.cells] w (RetE w (encMg r.m)) := by
  have hs := sndMg_is hyes
  have HLL : Hid (0 < (bodM r.m).length ∧ (bodM r.m).length ≤ 1700000) := by
    have := encTM_len hs
    show _ ∧ _
    unfold bodM
    rw [List.length_cons]
    omega
  have HBOD := Lib.hid (bodM_cut h).symm
  have HENC : Hid (bodM r.m ++ be4 (Crc.sum (bodM r.m)) = encMg r.m) := rfl
  have HZ : Hid (∀ z ∈ [r.m.kind, r.m.frm, r.m.to, r.m.epoch, r.m.e, r.m.cep, (r.ml : Int)], I64 z) := by
    intro z hz
    have hm := hs.mem
    have hl := h.ml
    simp at hz
    rcases hz with rfl | rfl | rfl | rfl | rfl | rfl | rfl
    · exact h.wf.kind
    · exact h.wf.frm
    · exact h.wf.to
    · exact h.wf.epoch
    · exact h.wf.e
    · exact h.wf.cep
    · exact ⟨by omega, by omega⟩
  show Calls Tryz.prog 19 #[.agg #[.int .i64 r.m.kind, .int .i64 r.m.frm, .int .i64 r.m.to, .int .i64 r.m.epoch, .int .i64 r.m.ent.seq, .int .i64 r.m.ent.client, .int .i64 r.m.ent.num, .int .i64 r.m.ent.op, .string (strB r.m.ent.key), .int .i64 r.m.ent.size, .int .u32 (r.m.ent.sum : Int), .slice r.loc r.el r.c, .int .i64 r.m.e, .slice r.fa r.fl r.fc, .slice r.ka r.kl r.kc, .int .i64 r.m.cep, .slice r.ma r.ml r.mc, .slice r.sa r.sl r.sc, .slice r.na r.nl r.nc]] w _
  have HB0 : Hid (Below w.heap.size w (w.alloc (.cells #[.int .i64 r.m.kind, .int .i64 r.m.frm, .int .i64 r.m.to, .int .i64 r.m.epoch, .int .i64 r.m.ent.seq, .int .i64 r.m.ent.client, .int .i64 r.m.ent.num, .int .i64 r.m.ent.op, .string (strB r.m.ent.key), .int .i64 r.m.ent.size, .int .u32 (r.m.ent.sum : Int), .slice r.loc r.el r.c, .int .i64 r.m.e, .slice r.fa r.fl r.fc, .slice r.ka r.kl r.kc, .int .i64 r.m.cep, .slice r.ma r.ml r.mc, .slice r.sa r.sl r.sc, .slice r.na r.nl r.nc] 40))) := below_one w _
  have HX0 : Hid (Box (w.alloc (.cells #[.int .i64 r.m.kind, .int .i64 r.m.frm, .int .i64 r.m.to, .int .i64 r.m.epoch, .int .i64 r.m.ent.seq, .int .i64 r.m.ent.client, .int .i64 r.m.ent.num, .int .i64 r.m.ent.op, .string (strB r.m.ent.key), .int .i64 r.m.ent.size, .int .u32 (r.m.ent.sum : Int), .slice r.loc r.el r.c, .int .i64 r.m.e, .slice r.fa r.fl r.fc, .slice r.ka r.kl r.kc, .int .i64 r.m.cep, .slice r.ma r.ml r.mc, .slice r.sa r.sl r.sc, .slice r.na r.nl r.nc] 40)) w.heap.size #[.int .i64 r.m.kind, .int .i64 r.m.frm, .int .i64 r.m.to, .int .i64 r.m.epoch, .int .i64 r.m.ent.seq, .int .i64 r.m.ent.client, .int .i64 r.m.ent.num, .int .i64 r.m.ent.op, .string (strB r.m.ent.key), .int .i64 r.m.ent.size, .int .u32 (r.m.ent.sum : Int), .slice r.loc r.el r.c, .int .i64 r.m.e, .slice r.fa r.fl r.fc, .slice r.ka r.kl r.kc, .int .i64 r.m.cep, .slice r.ma r.ml r.mc, .slice r.sa r.sl r.sc, .slice r.na r.nl r.nc]) := box_new w _ _ _ rfl
  have HM0 := Lib.hid (h.below HB0.out)
  clear h
  obtain ⟨x0, x1, x2, x3, x4, x5, x6, x7, x8, x9, x10, x11, x12, x13, x14, x15, x16, x17, x18⟩ := box19 HX0.out
  have HY := Lib.hid hyes
  have HSM := Lib.hid hs
  clear hyes hs
  go_enter Tryz.func19, Tryz.ntmps19
  go_wp2_with (refine wpList_ldM _ _ _ rfl rfl rfl rfl HX0.out ?_)
  generalize w.alloc (.cells #[.int .i64 r.m.kind, .int .i64 r.m.frm, .int .i64 r.m.to, .int .i64 r.m.epoch, .int .i64 r.m.ent.seq, .int .i64 r.m.ent.client, .int .i64 r.m.ent.num, .int .i64 r.m.ent.op, .string (strB r.m.ent.key), .int .i64 r.m.ent.size, .int .u32 (r.m.ent.sum : Int), .slice r.loc r.el r.c, .int .i64 r.m.e, .slice r.fa r.fl r.fc, .slice r.ka r.kl r.kc, .int .i64 r.m.cep, .slice r.ma r.ml r.mc, .slice r.sa r.sl r.sc, .slice r.na r.nl r.nc] 40) = w0 at *
  refine (msgSound_any r _ HM0.out).mono ?_
  rintro e w1 ⟨rfl, hb1⟩
  have HB2 := Lib.hid (HB0.out.trans (hb1.mono HB0.out.size)).drew
  have HM2 := Lib.hid (HM0.out.below hb1.drew)
  have HX2 := Lib.hid (HX0.out.below hb1.drew)
  clear hb1 x0 x1 x2 x3 x4 x5 x6 x7 x8 x9 x10 x11 x12 x13 x14 x15 x16 x17 x18 HB0 HM0 HX0
  rw [HY.out]
  clear HY
  obtain ⟨A1, hA1⟩ : ∃ A, encs [r.m.kind, r.m.frm, r.m.to, r.m.epoch, r.m.e, r.m.cep, (r.ml : Int)] = A := ⟨_, rfl⟩
  obtain ⟨q1, hq1⟩ : ∃ q, A1.length = q := ⟨_, rfl⟩
  obtain ⟨A2, hA2⟩ : ∃ A, encs r.m.mem = A := ⟨_, rfl⟩
  obtain ⟨q2, hq2⟩ : ∃ q, A2.length = q := ⟨_, rfl⟩
  obtain ⟨A3, hA3⟩ : ∃ A, encE r.m.ent = A := ⟨_, rfl⟩
  obtain ⟨q3, hq3⟩ : ∃ q, A3.length = q := ⟨_, rfl⟩
  obtain ⟨A4, hA4⟩ : ∃ A, encs [(r.fl : Int)] ++ encL encFr r.fs = A := ⟨_, rfl⟩
  obtain ⟨q4, hq4⟩ : ∃ q, A4.length = q := ⟨_, rfl⟩
  obtain ⟨A5, hA5⟩ : ∃ A, encs [(r.kl : Int)] ++ encL Pk.txt r.m.keys = A := ⟨_, rfl⟩
  obtain ⟨q5, hq5⟩ : ∃ q, A5.length = q := ⟨_, rfl⟩
  obtain ⟨A6, hA6⟩ : ∃ A, encs [(r.sl : Int)] ++ encL encSr r.m.srcs = A := ⟨_, rfl⟩
  obtain ⟨q6, hq6⟩ : ∃ q, A6.length = q := ⟨_, rfl⟩
  obtain ⟨A7, hA7⟩ : ∃ A, encs [(r.nl : Int)] ++ encL encE r.m.ents = A := ⟨_, rfl⟩
  obtain ⟨q7, hq7⟩ : ∃ q, A7.length = q := ⟨_, rfl⟩
  rw [hA1, hA2, hA3, hA4, hA5, hA6, hA7] at HBOD
  have HA1 := Lib.hid hA1
  have HQ1 := Lib.hid hq1
  have HA2 := Lib.hid hA2
  have HQ2 := Lib.hid hq2
  have HA3 := Lib.hid hA3
  have HQ3 := Lib.hid hq3
  have HA4 := Lib.hid hA4
  have HQ4 := Lib.hid hq4
  have HA5 := Lib.hid hA5
  have HQ5 := Lib.hid hq5
  have HA6 := Lib.hid hA6
  have HQ6 := Lib.hid hq6
  have HA7 := Lib.hid hA7
  have HQ7 := Lib.hid hq7
  clear hA1 hq1 hA2 hq2 hA3 hq3 hA4 hq4 hA5 hq5 hA6 hq6 hA7 hq7
  obtain ⟨L, hL⟩ : ∃ q, (bodM r.m).length = q := ⟨_, rfl⟩
  rw [hL] at HLL
  have HLB := Lib.hid hL
  clear hL
  go_upto_region 3 with fail
  go_cut [4] (fun s wx => ∃ (g c : Nat), s = .slice (some ⟨g, 0, none⟩) L c ∧ Hid (OwnB wx w.heap.size g c (bodM r.m)) ∧ Hid (Below w.heap.size w wx))
  case first =>
    rename_i JJ KK hJJ hKK
    refine wp_region_ext (by kernel_rfl) ?_
    generalize w1.drew = w2 at *
    have E := Lib.hid (Ext.refl w2)
    refine wpAnyH_tk (i := 1) 9 (v := ?_) rfl rfl (by kernel_rfl) (by kernel_rfl) (by kernel_rfl) (by rfl) (fun wq hwq => ?_) ?_
    rotate_left
    · (go_simp <;> with_reducible rfl)
    simp only [List.setIfInBounds_toArray, List.set_cons_zero, List.set_cons_succ]
    refine wpAnyH_tk (i := 2) 10 (v := ?_) rfl rfl (by kernel_rfl) (by kernel_rfl) (by kernel_rfl) (by rfl) (fun wq hwq => ?_) ?_
    rotate_left
    · (obtain ⟨x0, x1, x2, x3, x4, x5, x6, x7, x8, x9, x10, x11, x12, x13, x14, x15, x16, x17, x18⟩ := box19 ((HX2.out).below hwq); go_simp <;> with_reducible rfl)
    simp only [List.setIfInBounds_toArray, List.set_cons_zero, List.set_cons_succ]
    refine wpAnyH_tk (i := 3) 11 (v := ?_) rfl rfl (by kernel_rfl) (by kernel_rfl) (by kernel_rfl) (by rfl) (fun wq hwq => ?_) ?_
    rotate_left
    · (go_simp <;> with_reducible rfl)
    simp only [List.setIfInBounds_toArray, List.set_cons_zero, List.set_cons_succ]
    refine wpAnyH_tk (i := 4) 12 (v := ?_) rfl rfl (by kernel_rfl) (by kernel_rfl) (by kernel_rfl) (by rfl) (fun wq hwq => ?_) ?_
    rotate_left
    · (obtain ⟨x0, x1, x2, x3, x4, x5, x6, x7, x8, x9, x10, x11, x12, x13, x14, x15, x16, x17, x18⟩ := box19 ((HX2.out).below hwq); go_simp <;> with_reducible rfl)
    simp only [List.setIfInBounds_toArray, List.set_cons_zero, List.set_cons_succ]
    refine wpAnyH_tk (i := 5) 13 (v := ?_) rfl rfl (by kernel_rfl) (by kernel_rfl) (by kernel_rfl) (by rfl) (fun wq hwq => ?_) ?_
    rotate_left
    · (go_simp <;> with_reducible rfl)
    simp only [List.setIfInBounds_toArray, List.set_cons_zero, List.set_cons_succ]
    refine wpAnyH_tk (i := 6) 14 (v := ?_) rfl rfl (by kernel_rfl) (by kernel_rfl) (by kernel_rfl) (by rfl) (fun wq hwq => ?_) ?_
    rotate_left
    · (obtain ⟨x0, x1, x2, x3, x4, x5, x6, x7, x8, x9, x10, x11, x12, x13, x14, x15, x16, x17, x18⟩ := box19 ((HX2.out).below hwq); go_simp <;> with_reducible rfl)
    simp only [List.setIfInBounds_toArray, List.set_cons_zero, List.set_cons_succ]
    refine wpAnyH_tk (i := 7) 15 (v := ?_) rfl rfl (by kernel_rfl) (by kernel_rfl) (by kernel_rfl) (by rfl) (fun wq hwq => ?_) ?_
    rotate_left
    · (go_simp <;> with_reducible rfl)
    simp only [List.setIfInBounds_toArray, List.set_cons_zero, List.set_cons_succ]
    refine wpAnyH_tk (i := 8) 16 (v := ?_) rfl rfl (by kernel_rfl) (by kernel_rfl) (by kernel_rfl) (by rfl) (fun wq hwq => ?_) ?_
    rotate_left
    · (obtain ⟨x0, x1, x2, x3, x4, x5, x6, x7, x8, x9, x10, x11, x12, x13, x14, x15, x16, x17, x18⟩ := box19 ((HX2.out).below hwq); go_simp <;> with_reducible rfl)
    simp only [List.setIfInBounds_toArray, List.set_cons_zero, List.set_cons_succ]
    refine wpAnyH_tk (i := 9) 17 (v := ?_) rfl rfl (by kernel_rfl) (by kernel_rfl) (by kernel_rfl) (by rfl) (fun wq hwq => ?_) ?_
    rotate_left
    · (go_simp <;> with_reducible rfl)
    simp only [List.setIfInBounds_toArray, List.set_cons_zero, List.set_cons_succ]
    refine wpAnyH_tk (i := 10) 18 (v := ?_) rfl rfl (by kernel_rfl) (by kernel_rfl) (by kernel_rfl) (by rfl) (fun wq hwq => ?_) ?_
    rotate_left
    · (obtain ⟨x0, x1, x2, x3, x4, x5, x6, x7, x8, x9, x10, x11, x12, x13, x14, x15, x16, x17, x18⟩ := box19 ((HX2.out).below hwq); go_simp <;> with_reducible rfl)
    simp only [List.setIfInBounds_toArray, List.set_cons_zero, List.set_cons_succ]
    refine wpAnyH_tk (i := 11) 19 (v := ?_) rfl rfl (by kernel_rfl) (by kernel_rfl) (by kernel_rfl) (by rfl) (fun wq hwq => ?_) ?_
    rotate_left
    · (go_simp <;> with_reducible rfl)
    simp only [List.setIfInBounds_toArray, List.set_cons_zero, List.set_cons_succ]
    refine wpAnyH_tk (i := 12) 20 (v := ?_) rfl rfl (by kernel_rfl) (by kernel_rfl) (by kernel_rfl) (by rfl) (fun wq hwq => ?_) ?_
    rotate_left
    · (go_simp <;> with_reducible rfl)
    simp only [List.setIfInBounds_toArray, List.set_cons_zero, List.set_cons_succ]
    refine wpAnyH_tk (i := 13) 21 (v := ?_) rfl rfl (by kernel_rfl) (by kernel_rfl) (by kernel_rfl) (by rfl) (fun wq hwq => ?_) ?_
    rotate_left
    · (obtain ⟨x0, x1, x2, x3, x4, x5, x6, x7, x8, x9, x10, x11, x12, x13, x14, x15, x16, x17, x18⟩ := box19 ((HX2.out).below hwq); go_simp <;> with_reducible rfl)
    simp only [List.setIfInBounds_toArray, List.set_cons_zero, List.set_cons_succ]
    refine wpAnyH_tk (i := 14) 22 (v := ?_) rfl rfl (by kernel_rfl) (by kernel_rfl) (by kernel_rfl) (by rfl) (fun wq hwq => ?_) ?_
    rotate_left
    · (go_simp <;> with_reducible rfl)
    simp only [List.setIfInBounds_toArray, List.set_cons_zero, List.set_cons_succ]
    refine wpAnyH_tk (i := 15) 23 (v := ?_) rfl rfl (by kernel_rfl) (by kernel_rfl) (by kernel_rfl) (by rfl) (fun wq hwq => ?_) ?_
    rotate_left
    · (go_simp <;> with_reducible rfl)
    simp only [List.setIfInBounds_toArray, List.set_cons_zero, List.set_cons_succ]
    refine wpAnyH_tk (i := 16) 24 (v := ?_) rfl rfl (by kernel_rfl) (by kernel_rfl) (by kernel_rfl) (by rfl) (fun wq hwq => ?_) ?_
    rotate_left
    · (obtain ⟨x0, x1, x2, x3, x4, x5, x6, x7, x8, x9, x10, x11, x12, x13, x14, x15, x16, x17, x18⟩ := box19 ((HX2.out).below hwq); go_simp <;> with_reducible rfl)
    simp only [List.setIfInBounds_toArray, List.set_cons_zero, List.set_cons_succ]
    refine wpAnyH_tk (i := 17) 25 (v := ?_) rfl rfl (by kernel_rfl) (by kernel_rfl) (by kernel_rfl) (by rfl) (fun wq hwq => ?_) ?_
    rotate_left
    · (go_simp <;> with_reducible rfl)
    simp only [List.setIfInBounds_toArray, List.set_cons_zero, List.set_cons_succ]
    refine wpAnyH_tk (i := 20) 28 (v := ?_) rfl rfl (by kernel_rfl) (by kernel_rfl) (by kernel_rfl) (by rfl) (fun wq hwq => ?_) ?_
    rotate_left
    · (go_simp <;> with_reducible rfl)
    simp only [List.setIfInBounds_toArray, List.set_cons_zero, List.set_cons_succ]
    refine wpAnyH_tk (i := 21) 29 (v := ?_) rfl rfl (by kernel_rfl) (by kernel_rfl) (by kernel_rfl) (by rfl) (fun wq hwq => ?_) ?_
    rotate_left
    · (go_simp <;> with_reducible rfl)
    simp only [List.setIfInBounds_toArray, List.set_cons_zero, List.set_cons_succ]
    refine wpAnyH_tk (i := 22) 30 (v := ?_) rfl rfl (by kernel_rfl) (by kernel_rfl) (by kernel_rfl) (by rfl) (fun wq hwq => ?_) ?_
    rotate_left
    · (obtain ⟨x0, x1, x2, x3, x4, x5, x6, x7, x8, x9, x10, x11, x12, x13, x14, x15, x16, x17, x18⟩ := box19 ((HX2.out).below hwq); go_simp <;> with_reducible rfl)
    simp only [List.setIfInBounds_toArray, List.set_cons_zero, List.set_cons_succ]
    refine wpAnyH_tk (i := 24) 32 (v := ?_) rfl rfl (by kernel_rfl) (by kernel_rfl) (by kernel_rfl) (by rfl) (fun wq hwq => ?_) ?_
    rotate_left
    · (go_simp <;> with_reducible rfl)
    simp only [List.setIfInBounds_toArray, List.set_cons_zero, List.set_cons_succ]
    refine wpAnyH_tk (i := 25) 33 (v := ?_) rfl rfl (by kernel_rfl) (by kernel_rfl) (by kernel_rfl) (by rfl) (fun wq hwq => ?_) ?_
    rotate_left
    · (obtain ⟨x0, x1, x2, x3, x4, x5, x6, x7, x8, x9, x10, x11, x12, x13, x14, x15, x16, x17, x18⟩ := box19 ((HX2.out).below hwq); go_simp <;> with_reducible rfl)
    simp only [List.setIfInBounds_toArray, List.set_cons_zero, List.set_cons_succ]
    refine wpAnyH_tk (i := 27) 35 (v := ?_) rfl rfl (by kernel_rfl) (by kernel_rfl) (by kernel_rfl) (by rfl) (fun wq hwq => ?_) ?_
    rotate_left
    · (go_simp <;> with_reducible rfl)
    simp only [List.setIfInBounds_toArray, List.set_cons_zero, List.set_cons_succ]
    refine wpAnyH_tk (i := 28) 36 (v := ?_) rfl rfl (by kernel_rfl) (by kernel_rfl) (by kernel_rfl) (by rfl) (fun wq hwq => ?_) ?_
    rotate_left
    · (obtain ⟨x0, x1, x2, x3, x4, x5, x6, x7, x8, x9, x10, x11, x12, x13, x14, x15, x16, x17, x18⟩ := box19 ((HX2.out).below hwq); go_simp <;> with_reducible rfl)
    simp only [List.setIfInBounds_toArray, List.set_cons_zero, List.set_cons_succ]
    refine wpAnyH_tk (i := 30) 38 (v := ?_) rfl rfl (by kernel_rfl) (by kernel_rfl) (by kernel_rfl) (by rfl) (fun wq hwq => ?_) ?_
    rotate_left
    · (go_simp <;> with_reducible rfl)
    simp only [List.setIfInBounds_toArray, List.set_cons_zero, List.set_cons_succ]
    refine wpAnyH_tk (i := 31) 39 (v := ?_) rfl rfl (by kernel_rfl) (by kernel_rfl) (by kernel_rfl) (by rfl) (fun wq hwq => ?_) ?_
    rotate_left
    · (obtain ⟨x0, x1, x2, x3, x4, x5, x6, x7, x8, x9, x10, x11, x12, x13, x14, x15, x16, x17, x18⟩ := box19 ((HX2.out).below hwq); go_simp <;> with_reducible rfl)
    simp only [List.setIfInBounds_toArray, List.set_cons_zero, List.set_cons_succ]
    refine wpAnyH_tk (i := 33) 41 (v := ?_) rfl rfl (by kernel_rfl) (by kernel_rfl) (by kernel_rfl) (by rfl) (fun wq hwq => ?_) ?_
    rotate_left
    · (go_simp <;> with_reducible rfl)
    simp only [List.setIfInBounds_toArray, List.set_cons_zero, List.set_cons_succ]
    refine wpAnyH_tk (i := 34) 42 (v := ?_) rfl rfl (by kernel_rfl) (by kernel_rfl) (by kernel_rfl) (by rfl) (fun wq hwq => ?_) ?_
    rotate_left
    · (obtain ⟨x0, x1, x2, x3, x4, x5, x6, x7, x8, x9, x10, x11, x12, x13, x14, x15, x16, x17, x18⟩ := box19 ((HX2.out).below hwq); go_simp <;> with_reducible rfl)
    simp only [List.setIfInBounds_toArray, List.set_cons_zero, List.set_cons_succ]
    refine wpAnyH_tk (i := 36) 44 (v := ?_) rfl rfl (by kernel_rfl) (by kernel_rfl) (by kernel_rfl) (by rfl) (fun wq hwq => ?_) ?_
    rotate_left
    · (go_simp <;> with_reducible rfl)
    simp only [List.setIfInBounds_toArray, List.set_cons_zero, List.set_cons_succ]
    refine wpAnyH_tk (i := 37) 45 (v := ?_) rfl rfl (by kernel_rfl) (by kernel_rfl) (by kernel_rfl) (by rfl) (fun wq hwq => ?_) ?_
    rotate_left
    · (obtain ⟨x0, x1, x2, x3, x4, x5, x6, x7, x8, x9, x10, x11, x12, x13, x14, x15, x16, x17, x18⟩ := box19 ((HX2.out).below hwq); go_simp <;> with_reducible rfl)
    simp only [List.setIfInBounds_toArray, List.set_cons_zero, List.set_cons_succ]
    refine wpAnyH_twoF (i := 0) (j := 18) rfl rfl (by kernel_rfl) (by rfl) (by rfl) (fun K hK => ?_) (fun K hK => ?_)
    · skip
      go_simp
      have hb := below_one w2 (.cells #[.int .u8 1] 5)
      have HS0 := Lib.hid (seen_oneB w2)
      replace E := Lib.hid (E.out.trans hb)
      refine hK.out _ _ E.out ?_
      clear hK K hb
      generalize w2.alloc (.cells #[.int .u8 1] 5) = v12 at *
      refine wpAnyH_oneF (i := 18) rfl (by kernel_rfl) (by rfl) (fun K hK => ?_)
      go_simp
      have hb := below_one v12 (.cells #[.int .i64 r.m.kind, .int .i64 r.m.frm, .int .i64 r.m.to, .int .i64 r.m.epoch, .int .i64 r.m.e, .int .i64 r.m.cep, .int .i64 (r.ml : Int)] 3)
      replace HS0 := Lib.hid (HS0.out.below hb)
      have HI := Lib.hid (ints_lit v12 [r.m.kind, r.m.frm, r.m.to, r.m.epoch, r.m.e, r.m.cep, (r.ml : Int)] #[.int .i64 r.m.kind, .int .i64 r.m.frm, .int .i64 r.m.to, .int .i64 r.m.epoch, .int .i64 r.m.e, .int .i64 r.m.cep, .int .i64 (r.ml : Int)] 7 v12.heap.size rfl rfl rfl HZ.out (by unfold maxLen; omega))
      replace E := Lib.hid (E.out.trans hb)
      refine hK.out _ _ E.out ?_
      clear hK K hb
      generalize v12.alloc (.cells #[.int .i64 r.m.kind, .int .i64 r.m.frm, .int .i64 r.m.to, .int .i64 r.m.epoch, .int .i64 r.m.e, .int .i64 r.m.cep, .int .i64 (r.ml : Int)] 3) = v16 at *
      refine wpAnyH_oneF (i := 19) rfl (by kernel_rfl) (by rfl) (fun K hK => ?_)
      go_simp
      refine (part_head _ _ HI.out rfl HA1.out HQ1.out).mono ?_
      rintro e v18 ⟨x1, c1, rfl, hs, hb⟩
      clear HI
      replace HS0 := Lib.hid (HS0.out.below hb)
      have HS1 := Lib.hid hs
      replace E := Lib.hid (E.out.trans hb)
      refine hK.out _ _ E.out ?_
      clear hK K hs hb
      refine wpAnyH_oneF (i := 23) rfl (by kernel_rfl) (by rfl) (fun K hK => ?_)
      go_simp
      refine (part_mem HM2.out HSM.out E.out HA2.out HQ2.out).mono ?_
      rintro e v20 ⟨x2, c2, rfl, hs, hb⟩
      replace HS0 := Lib.hid (HS0.out.below hb)
      replace HS1 := Lib.hid (HS1.out.below hb)
      have HS2 := Lib.hid hs
      replace E := Lib.hid (E.out.trans hb)
      refine hK.out _ _ E.out ?_
      clear hK K hs hb
      refine wpAnyH_oneF (i := 26) rfl (by kernel_rfl) (by rfl) (fun K hK => ?_)
      go_simp
      refine (part_ent HM2.out HSM.out E.out HA3.out HQ3.out).mono ?_
      rintro e v22 ⟨x3, c3, rfl, hs, hb⟩
      replace HS0 := Lib.hid (HS0.out.below hb)
      replace HS1 := Lib.hid (HS1.out.below hb)
      replace HS2 := Lib.hid (HS2.out.below hb)
      have HS3 := Lib.hid hs
      replace E := Lib.hid (E.out.trans hb)
      refine hK.out _ _ E.out ?_
      clear hK K hs hb
      refine wpAnyH_oneF (i := 29) rfl (by kernel_rfl) (by rfl) (fun K hK => ?_)
      go_simp
      refine (part_frs HM2.out HSM.out E.out HA4.out HQ4.out).mono ?_
      rintro e v24 ⟨x4, c4, rfl, hs, hb⟩
      replace HS0 := Lib.hid (HS0.out.below hb)
      replace HS1 := Lib.hid (HS1.out.below hb)
      replace HS2 := Lib.hid (HS2.out.below hb)
      replace HS3 := Lib.hid (HS3.out.below hb)
      have HS4 := Lib.hid hs
      replace E := Lib.hid (E.out.trans hb)
      refine hK.out _ _ E.out ?_
      clear hK K hs hb
      refine wpAnyH_oneF (i := 32) rfl (by kernel_rfl) (by rfl) (fun K hK => ?_)
      go_simp
      refine (part_keys HM2.out HSM.out E.out HA5.out HQ5.out).mono ?_
      rintro e v26 ⟨x5, c5, rfl, hs, hb⟩
      replace HS0 := Lib.hid (HS0.out.below hb)
      replace HS1 := Lib.hid (HS1.out.below hb)
      replace HS2 := Lib.hid (HS2.out.below hb)
      replace HS3 := Lib.hid (HS3.out.below hb)
      replace HS4 := Lib.hid (HS4.out.below hb)
      have HS5 := Lib.hid hs
      replace E := Lib.hid (E.out.trans hb)
      refine hK.out _ _ E.out ?_
      clear hK K hs hb
      refine wpAnyH_oneF (i := 35) rfl (by kernel_rfl) (by rfl) (fun K hK => ?_)
      go_simp
      refine (part_srcs HM2.out HSM.out E.out HA6.out HQ6.out).mono ?_
      rintro e v28 ⟨x6, c6, rfl, hs, hb⟩
      replace HS0 := Lib.hid (HS0.out.below hb)
      replace HS1 := Lib.hid (HS1.out.below hb)
      replace HS2 := Lib.hid (HS2.out.below hb)
      replace HS3 := Lib.hid (HS3.out.below hb)
      replace HS4 := Lib.hid (HS4.out.below hb)
      replace HS5 := Lib.hid (HS5.out.below hb)
      have HS6 := Lib.hid hs
      replace E := Lib.hid (E.out.trans hb)
      refine hK.out _ _ E.out ?_
      clear hK K hs hb
      refine wpAnyH_oneF (i := 38) rfl (by kernel_rfl) (by rfl) (fun K hK => ?_)
      go_simp
      refine (part_ents HM2.out HSM.out E.out HA7.out HQ7.out).mono ?_
      rintro e v30 ⟨x7, c7, rfl, hs, hb⟩
      replace HS0 := Lib.hid (HS0.out.below hb)
      replace HS1 := Lib.hid (HS1.out.below hb)
      replace HS2 := Lib.hid (HS2.out.below hb)
      replace HS3 := Lib.hid (HS3.out.below hb)
      replace HS4 := Lib.hid (HS4.out.below hb)
      replace HS5 := Lib.hid (HS5.out.below hb)
      replace HS6 := Lib.hid (HS6.out.below hb)
      have HS7 := Lib.hid hs
      replace E := Lib.hid (E.out.trans hb)
      refine hK.out _ _ E.out ?_
      clear hK K hs hb
      refine wpAnyH_oneF (i := 39) rfl (by kernel_rfl) (by rfl) (fun K hK => ?_)
      go_simp
      have HG := Lib.hid (rows_eight rfl HQ1.out HQ2.out HQ3.out HQ4.out HQ5.out HQ6.out HQ7.out HS0.out HS1.out HS2.out HS3.out HS4.out HS5.out HS6.out HS7.out)
      replace E := Lib.hid (E.out.trans (below_one v30 (.cells #[.slice (some ⟨w2.heap.size, 0, none⟩) 1 1, .slice x1 q1 c1, .slice x2 q2 c2, .slice x3 q3 c3, .slice x4 q4 c4, .slice x5 q5 c5, .slice x6 q6 c6, .slice x7 q7 c7] 28)))
      refine hK.out _ _ E.out ?_
      clear hK K HS0 HS1 HS2 HS3 HS4 HS5 HS6 HS7
      generalize v30.alloc (.cells #[.slice (some ⟨w2.heap.size, 0, none⟩) 1 1, .slice x1 q1 c1, .slice x2 q2 c2, .slice x3 q3 c3, .slice x4 q4 c4, .slice x5 q5 c5, .slice x6 q6 c6, .slice x7 q7 c7] 28) = v34 at *
      refine wpAnyH_oneF (i := 40) rfl (by kernel_rfl) (by rfl) (fun K hK => ?_)
      go_simp
      refine (concat_own _ 8 8 _ _ rfl HG.out (by rw [HBOD.out, HLB.out]; exact HLL.out.1) (by rw [HBOD.out, HLB.out]; exact Nat.le_trans HLL.out.2 (by omega))).mono ?_
      rintro e wz ⟨g, c, rfl, ho, hb⟩
      rw [HBOD.out] at ho ⊢
      rw [HLB.out]
      have EF := Lib.hid (E.out.trans hb)
      have HOF := Lib.hid (ho.base (Nat.le_trans HB2.out.size E.out.size))
      have HBF := Lib.hid (HB2.out.trans (EF.out.mono HB2.out.size))
      refine hK.out _ _ EF.out ?_
      clear hK K hb ho HG E
      refine wpAnyH_now EF.out ?_
      refine wpAnyH_tk (i := 41) 4 (v := ?_) rfl rfl (by kernel_rfl) (by kernel_rfl) (by kernel_rfl) (by rfl) (fun wq hwq => ?_) ?_
      rotate_left
      · (go_simp <;> with_reducible rfl)
      simp only [List.setIfInBounds_toArray, List.set_cons_zero, List.set_cons_succ]
      refine wpAnyH_done (by kernel_rfl) ?_ _
      refine NoPanic.normal ?_
      refine hKK _ _ (Met.intro (hJJ _ _ ?_))
      (repeat apply Exists.intro)
      exact ⟨⟨g, c, rfl, HOF, HBF⟩, rfl⟩
    · skip
      go_simp
      have hb := below_one w2 (.cells #[.int .i64 r.m.kind, .int .i64 r.m.frm, .int .i64 r.m.to, .int .i64 r.m.epoch, .int .i64 r.m.e, .int .i64 r.m.cep, .int .i64 (r.ml : Int)] 3)
      have HI := Lib.hid (ints_lit w2 [r.m.kind, r.m.frm, r.m.to, r.m.epoch, r.m.e, r.m.cep, (r.ml : Int)] #[.int .i64 r.m.kind, .int .i64 r.m.frm, .int .i64 r.m.to, .int .i64 r.m.epoch, .int .i64 r.m.e, .int .i64 r.m.cep, .int .i64 (r.ml : Int)] 7 w2.heap.size rfl rfl rfl HZ.out (by unfold maxLen; omega))
      replace E := Lib.hid (E.out.trans hb)
      refine hK.out _ _ E.out ?_
      clear hK K hb
      generalize w2.alloc (.cells #[.int .i64 r.m.kind, .int .i64 r.m.frm, .int .i64 r.m.to, .int .i64 r.m.epoch, .int .i64 r.m.e, .int .i64 r.m.cep, .int .i64 (r.ml : Int)] 3) = v14 at *
      refine wpAnyH_twoF (i := 0) (j := 19) rfl rfl (by kernel_rfl) (by rfl) (by rfl) (fun K hK => ?_) (fun K hK => ?_)
      · skip
        go_simp
        have hb := below_one v14 (.cells #[.int .u8 1] 5)
        replace HI := Lib.hid (HI.out.below hb)
        have HS0 := Lib.hid (seen_oneB v14)
        replace E := Lib.hid (E.out.trans hb)
        refine hK.out _ _ E.out ?_
        clear hK K hb
        generalize v14.alloc (.cells #[.int .u8 1] 5) = v36 at *
        refine wpAnyH_oneF (i := 19) rfl (by kernel_rfl) (by rfl) (fun K hK => ?_)
        go_simp
        refine (part_head _ _ HI.out rfl HA1.out HQ1.out).mono ?_
        rintro e v40 ⟨x1, c1, rfl, hs, hb⟩
        clear HI
        replace HS0 := Lib.hid (HS0.out.below hb)
        have HS1 := Lib.hid hs
        replace E := Lib.hid (E.out.trans hb)
        refine hK.out _ _ E.out ?_
        clear hK K hs hb
        refine wpAnyH_oneF (i := 23) rfl (by kernel_rfl) (by rfl) (fun K hK => ?_)
        go_simp
        refine (part_mem HM2.out HSM.out E.out HA2.out HQ2.out).mono ?_
        rintro e v42 ⟨x2, c2, rfl, hs, hb⟩
        replace HS0 := Lib.hid (HS0.out.below hb)
        replace HS1 := Lib.hid (HS1.out.below hb)
        have HS2 := Lib.hid hs
        replace E := Lib.hid (E.out.trans hb)
        refine hK.out _ _ E.out ?_
        clear hK K hs hb
        refine wpAnyH_oneF (i := 26) rfl (by kernel_rfl) (by rfl) (fun K hK => ?_)
        go_simp
        refine (part_ent HM2.out HSM.out E.out HA3.out HQ3.out).mono ?_
        rintro e v44 ⟨x3, c3, rfl, hs, hb⟩
        replace HS0 := Lib.hid (HS0.out.below hb)
        replace HS1 := Lib.hid (HS1.out.below hb)
        replace HS2 := Lib.hid (HS2.out.below hb)
        have HS3 := Lib.hid hs
        replace E := Lib.hid (E.out.trans hb)
        refine hK.out _ _ E.out ?_
        clear hK K hs hb
        refine wpAnyH_oneF (i := 29) rfl (by kernel_rfl) (by rfl) (fun K hK => ?_)
        go_simp
        refine (part_frs HM2.out HSM.out E.out HA4.out HQ4.out).mono ?_
        rintro e v46 ⟨x4, c4, rfl, hs, hb⟩
        replace HS0 := Lib.hid (HS0.out.below hb)
        replace HS1 := Lib.hid (HS1.out.below hb)
        replace HS2 := Lib.hid (HS2.out.below hb)
        replace HS3 := Lib.hid (HS3.out.below hb)
        have HS4 := Lib.hid hs
        replace E := Lib.hid (E.out.trans hb)
        refine hK.out _ _ E.out ?_
        clear hK K hs hb
        refine wpAnyH_oneF (i := 32) rfl (by kernel_rfl) (by rfl) (fun K hK => ?_)
        go_simp
        refine (part_keys HM2.out HSM.out E.out HA5.out HQ5.out).mono ?_
        rintro e v48 ⟨x5, c5, rfl, hs, hb⟩
        replace HS0 := Lib.hid (HS0.out.below hb)
        replace HS1 := Lib.hid (HS1.out.below hb)
        replace HS2 := Lib.hid (HS2.out.below hb)
        replace HS3 := Lib.hid (HS3.out.below hb)
        replace HS4 := Lib.hid (HS4.out.below hb)
        have HS5 := Lib.hid hs
        replace E := Lib.hid (E.out.trans hb)
        refine hK.out _ _ E.out ?_
        clear hK K hs hb
        refine wpAnyH_oneF (i := 35) rfl (by kernel_rfl) (by rfl) (fun K hK => ?_)
        go_simp
        refine (part_srcs HM2.out HSM.out E.out HA6.out HQ6.out).mono ?_
        rintro e v50 ⟨x6, c6, rfl, hs, hb⟩
        replace HS0 := Lib.hid (HS0.out.below hb)
        replace HS1 := Lib.hid (HS1.out.below hb)
        replace HS2 := Lib.hid (HS2.out.below hb)
        replace HS3 := Lib.hid (HS3.out.below hb)
        replace HS4 := Lib.hid (HS4.out.below hb)
        replace HS5 := Lib.hid (HS5.out.below hb)
        have HS6 := Lib.hid hs
        replace E := Lib.hid (E.out.trans hb)
        refine hK.out _ _ E.out ?_
        clear hK K hs hb
        refine wpAnyH_oneF (i := 38) rfl (by kernel_rfl) (by rfl) (fun K hK => ?_)
        go_simp
        refine (part_ents HM2.out HSM.out E.out HA7.out HQ7.out).mono ?_
        rintro e v52 ⟨x7, c7, rfl, hs, hb⟩
        replace HS0 := Lib.hid (HS0.out.below hb)
        replace HS1 := Lib.hid (HS1.out.below hb)
        replace HS2 := Lib.hid (HS2.out.below hb)
        replace HS3 := Lib.hid (HS3.out.below hb)
        replace HS4 := Lib.hid (HS4.out.below hb)
        replace HS5 := Lib.hid (HS5.out.below hb)
        replace HS6 := Lib.hid (HS6.out.below hb)
        have HS7 := Lib.hid hs
        replace E := Lib.hid (E.out.trans hb)
        refine hK.out _ _ E.out ?_
        clear hK K hs hb
        refine wpAnyH_oneF (i := 39) rfl (by kernel_rfl) (by rfl) (fun K hK => ?_)
        go_simp
        have HG := Lib.hid (rows_eight rfl HQ1.out HQ2.out HQ3.out HQ4.out HQ5.out HQ6.out HQ7.out HS0.out HS1.out HS2.out HS3.out HS4.out HS5.out HS6.out HS7.out)
        replace E := Lib.hid (E.out.trans (below_one v52 (.cells #[.slice (some ⟨v14.heap.size, 0, none⟩) 1 1, .slice x1 q1 c1, .slice x2 q2 c2, .slice x3 q3 c3, .slice x4 q4 c4, .slice x5 q5 c5, .slice x6 q6 c6, .slice x7 q7 c7] 28)))
        refine hK.out _ _ E.out ?_
        clear hK K HS0 HS1 HS2 HS3 HS4 HS5 HS6 HS7
        generalize v52.alloc (.cells #[.slice (some ⟨v14.heap.size, 0, none⟩) 1 1, .slice x1 q1 c1, .slice x2 q2 c2, .slice x3 q3 c3, .slice x4 q4 c4, .slice x5 q5 c5, .slice x6 q6 c6, .slice x7 q7 c7] 28) = v56 at *
        refine wpAnyH_oneF (i := 40) rfl (by kernel_rfl) (by rfl) (fun K hK => ?_)
        go_simp
        refine (concat_own _ 8 8 _ _ rfl HG.out (by rw [HBOD.out, HLB.out]; exact HLL.out.1) (by rw [HBOD.out, HLB.out]; exact Nat.le_trans HLL.out.2 (by omega))).mono ?_
        rintro e wz ⟨g, c, rfl, ho, hb⟩
        rw [HBOD.out] at ho ⊢
        rw [HLB.out]
        have EF := Lib.hid (E.out.trans hb)
        have HOF := Lib.hid (ho.base (Nat.le_trans HB2.out.size E.out.size))
        have HBF := Lib.hid (HB2.out.trans (EF.out.mono HB2.out.size))
        refine hK.out _ _ EF.out ?_
        clear hK K hb ho HG E
        refine wpAnyH_now EF.out ?_
        refine wpAnyH_tk (i := 41) 4 (v := ?_) rfl rfl (by kernel_rfl) (by kernel_rfl) (by kernel_rfl) (by rfl) (fun wq hwq => ?_) ?_
        rotate_left
        · (go_simp <;> with_reducible rfl)
        simp only [List.setIfInBounds_toArray, List.set_cons_zero, List.set_cons_succ]
        refine wpAnyH_done (by kernel_rfl) ?_ _
        refine NoPanic.normal ?_
        refine hKK _ _ (Met.intro (hJJ _ _ ?_))
        (repeat apply Exists.intro)
        exact ⟨⟨g, c, rfl, HOF, HBF⟩, rfl⟩
      · skip
        go_simp
        refine (part_head _ _ HI.out rfl HA1.out HQ1.out).mono ?_
        rintro e v38 ⟨x1, c1, rfl, hs, hb⟩
        clear HI
        have HS1 := Lib.hid hs
        replace E := Lib.hid (E.out.trans hb)
        refine hK.out _ _ E.out ?_
        clear hK K hs hb
        refine wpAnyH_twoF (i := 0) (j := 23) rfl rfl (by kernel_rfl) (by rfl) (by rfl) (fun K hK => ?_) (fun K hK => ?_)
        · skip
          go_simp
          have hb := below_one v38 (.cells #[.int .u8 1] 5)
          replace HS1 := Lib.hid (HS1.out.below hb)
          have HS0 := Lib.hid (seen_oneB v38)
          replace E := Lib.hid (E.out.trans hb)
          refine hK.out _ _ E.out ?_
          clear hK K hb
          generalize v38.alloc (.cells #[.int .u8 1] 5) = v58 at *
          refine wpAnyH_oneF (i := 23) rfl (by kernel_rfl) (by rfl) (fun K hK => ?_)
          go_simp
          refine (part_mem HM2.out HSM.out E.out HA2.out HQ2.out).mono ?_
          rintro e v62 ⟨x2, c2, rfl, hs, hb⟩
          replace HS1 := Lib.hid (HS1.out.below hb)
          replace HS0 := Lib.hid (HS0.out.below hb)
          have HS2 := Lib.hid hs
          replace E := Lib.hid (E.out.trans hb)
          refine hK.out _ _ E.out ?_
          clear hK K hs hb
          refine wpAnyH_oneF (i := 26) rfl (by kernel_rfl) (by rfl) (fun K hK => ?_)
          go_simp
          refine (part_ent HM2.out HSM.out E.out HA3.out HQ3.out).mono ?_
          rintro e v64 ⟨x3, c3, rfl, hs, hb⟩
          replace HS1 := Lib.hid (HS1.out.below hb)
          replace HS0 := Lib.hid (HS0.out.below hb)
          replace HS2 := Lib.hid (HS2.out.below hb)
          have HS3 := Lib.hid hs
          replace E := Lib.hid (E.out.trans hb)
          refine hK.out _ _ E.out ?_
          clear hK K hs hb
          refine wpAnyH_oneF (i := 29) rfl (by kernel_rfl) (by rfl) (fun K hK => ?_)
          go_simp
          refine (part_frs HM2.out HSM.out E.out HA4.out HQ4.out).mono ?_
          rintro e v66 ⟨x4, c4, rfl, hs, hb⟩
          replace HS1 := Lib.hid (HS1.out.below hb)
          replace HS0 := Lib.hid (HS0.out.below hb)
          replace HS2 := Lib.hid (HS2.out.below hb)
          replace HS3 := Lib.hid (HS3.out.below hb)
          have HS4 := Lib.hid hs
          replace E := Lib.hid (E.out.trans hb)
          refine hK.out _ _ E.out ?_
          clear hK K hs hb
          refine wpAnyH_oneF (i := 32) rfl (by kernel_rfl) (by rfl) (fun K hK => ?_)
          go_simp
          refine (part_keys HM2.out HSM.out E.out HA5.out HQ5.out).mono ?_
          rintro e v68 ⟨x5, c5, rfl, hs, hb⟩
          replace HS1 := Lib.hid (HS1.out.below hb)
          replace HS0 := Lib.hid (HS0.out.below hb)
          replace HS2 := Lib.hid (HS2.out.below hb)
          replace HS3 := Lib.hid (HS3.out.below hb)
          replace HS4 := Lib.hid (HS4.out.below hb)
          have HS5 := Lib.hid hs
          replace E := Lib.hid (E.out.trans hb)
          refine hK.out _ _ E.out ?_
          clear hK K hs hb
          refine wpAnyH_oneF (i := 35) rfl (by kernel_rfl) (by rfl) (fun K hK => ?_)
          go_simp
          refine (part_srcs HM2.out HSM.out E.out HA6.out HQ6.out).mono ?_
          rintro e v70 ⟨x6, c6, rfl, hs, hb⟩
          replace HS1 := Lib.hid (HS1.out.below hb)
          replace HS0 := Lib.hid (HS0.out.below hb)
          replace HS2 := Lib.hid (HS2.out.below hb)
          replace HS3 := Lib.hid (HS3.out.below hb)
          replace HS4 := Lib.hid (HS4.out.below hb)
          replace HS5 := Lib.hid (HS5.out.below hb)
          have HS6 := Lib.hid hs
          replace E := Lib.hid (E.out.trans hb)
          refine hK.out _ _ E.out ?_
          clear hK K hs hb
          refine wpAnyH_oneF (i := 38) rfl (by kernel_rfl) (by rfl) (fun K hK => ?_)
          go_simp
          refine (part_ents HM2.out HSM.out E.out HA7.out HQ7.out).mono ?_
          rintro e v72 ⟨x7, c7, rfl, hs, hb⟩
          replace HS1 := Lib.hid (HS1.out.below hb)
          replace HS0 := Lib.hid (HS0.out.below hb)
          replace HS2 := Lib.hid (HS2.out.below hb)
          replace HS3 := Lib.hid (HS3.out.below hb)
          replace HS4 := Lib.hid (HS4.out.below hb)
          replace HS5 := Lib.hid (HS5.out.below hb)
          replace HS6 := Lib.hid (HS6.out.below hb)
          have HS7 := Lib.hid hs
          replace E := Lib.hid (E.out.trans hb)
          refine hK.out _ _ E.out ?_
          clear hK K hs hb
          refine wpAnyH_oneF (i := 39) rfl (by kernel_rfl) (by rfl) (fun K hK => ?_)
          go_simp
          have HG := Lib.hid (rows_eight rfl HQ1.out HQ2.out HQ3.out HQ4.out HQ5.out HQ6.out HQ7.out HS0.out HS1.out HS2.out HS3.out HS4.out HS5.out HS6.out HS7.out)
          replace E := Lib.hid (E.out.trans (below_one v72 (.cells #[.slice (some ⟨v38.heap.size, 0, none⟩) 1 1, .slice x1 q1 c1, .slice x2 q2 c2, .slice x3 q3 c3, .slice x4 q4 c4, .slice x5 q5 c5, .slice x6 q6 c6, .slice x7 q7 c7] 28)))
          refine hK.out _ _ E.out ?_
          clear hK K HS0 HS1 HS2 HS3 HS4 HS5 HS6 HS7
          generalize v72.alloc (.cells #[.slice (some ⟨v38.heap.size, 0, none⟩) 1 1, .slice x1 q1 c1, .slice x2 q2 c2, .slice x3 q3 c3, .slice x4 q4 c4, .slice x5 q5 c5, .slice x6 q6 c6, .slice x7 q7 c7] 28) = v76 at *
          refine wpAnyH_oneF (i := 40) rfl (by kernel_rfl) (by rfl) (fun K hK => ?_)
          go_simp
          refine (concat_own _ 8 8 _ _ rfl HG.out (by rw [HBOD.out, HLB.out]; exact HLL.out.1) (by rw [HBOD.out, HLB.out]; exact Nat.le_trans HLL.out.2 (by omega))).mono ?_
          rintro e wz ⟨g, c, rfl, ho, hb⟩
          rw [HBOD.out] at ho ⊢
          rw [HLB.out]
          have EF := Lib.hid (E.out.trans hb)
          have HOF := Lib.hid (ho.base (Nat.le_trans HB2.out.size E.out.size))
          have HBF := Lib.hid (HB2.out.trans (EF.out.mono HB2.out.size))
          refine hK.out _ _ EF.out ?_
          clear hK K hb ho HG E
          refine wpAnyH_now EF.out ?_
          refine wpAnyH_tk (i := 41) 4 (v := ?_) rfl rfl (by kernel_rfl) (by kernel_rfl) (by kernel_rfl) (by rfl) (fun wq hwq => ?_) ?_
          rotate_left
          · (go_simp <;> with_reducible rfl)
          simp only [List.setIfInBounds_toArray, List.set_cons_zero, List.set_cons_succ]
          refine wpAnyH_done (by kernel_rfl) ?_ _
          refine NoPanic.normal ?_
          refine hKK _ _ (Met.intro (hJJ _ _ ?_))
          (repeat apply Exists.intro)
          exact ⟨⟨g, c, rfl, HOF, HBF⟩, rfl⟩
        · skip
          go_simp
          refine (part_mem HM2.out HSM.out E.out HA2.out HQ2.out).mono ?_
          rintro e v60 ⟨x2, c2, rfl, hs, hb⟩
          replace HS1 := Lib.hid (HS1.out.below hb)
          have HS2 := Lib.hid hs
          replace E := Lib.hid (E.out.trans hb)
          refine hK.out _ _ E.out ?_
          clear hK K hs hb
          refine wpAnyH_twoF (i := 0) (j := 26) rfl rfl (by kernel_rfl) (by rfl) (by rfl) (fun K hK => ?_) (fun K hK => ?_)
          · skip
            go_simp
            have hb := below_one v60 (.cells #[.int .u8 1] 5)
            replace HS1 := Lib.hid (HS1.out.below hb)
            replace HS2 := Lib.hid (HS2.out.below hb)
            have HS0 := Lib.hid (seen_oneB v60)
            replace E := Lib.hid (E.out.trans hb)
            refine hK.out _ _ E.out ?_
            clear hK K hb
            generalize v60.alloc (.cells #[.int .u8 1] 5) = v78 at *
            refine wpAnyH_oneF (i := 26) rfl (by kernel_rfl) (by rfl) (fun K hK => ?_)
            go_simp
            refine (part_ent HM2.out HSM.out E.out HA3.out HQ3.out).mono ?_
            rintro e v82 ⟨x3, c3, rfl, hs, hb⟩
            replace HS1 := Lib.hid (HS1.out.below hb)
            replace HS2 := Lib.hid (HS2.out.below hb)
            replace HS0 := Lib.hid (HS0.out.below hb)
            have HS3 := Lib.hid hs
            replace E := Lib.hid (E.out.trans hb)
            refine hK.out _ _ E.out ?_
            clear hK K hs hb
            refine wpAnyH_oneF (i := 29) rfl (by kernel_rfl) (by rfl) (fun K hK => ?_)
            go_simp
            refine (part_frs HM2.out HSM.out E.out HA4.out HQ4.out).mono ?_
            rintro e v84 ⟨x4, c4, rfl, hs, hb⟩
            replace HS1 := Lib.hid (HS1.out.below hb)
            replace HS2 := Lib.hid (HS2.out.below hb)
            replace HS0 := Lib.hid (HS0.out.below hb)
            replace HS3 := Lib.hid (HS3.out.below hb)
            have HS4 := Lib.hid hs
            replace E := Lib.hid (E.out.trans hb)
            refine hK.out _ _ E.out ?_
            clear hK K hs hb
            refine wpAnyH_oneF (i := 32) rfl (by kernel_rfl) (by rfl) (fun K hK => ?_)
            go_simp
            refine (part_keys HM2.out HSM.out E.out HA5.out HQ5.out).mono ?_
            rintro e v86 ⟨x5, c5, rfl, hs, hb⟩
            replace HS1 := Lib.hid (HS1.out.below hb)
            replace HS2 := Lib.hid (HS2.out.below hb)
            replace HS0 := Lib.hid (HS0.out.below hb)
            replace HS3 := Lib.hid (HS3.out.below hb)
            replace HS4 := Lib.hid (HS4.out.below hb)
            have HS5 := Lib.hid hs
            replace E := Lib.hid (E.out.trans hb)
            refine hK.out _ _ E.out ?_
            clear hK K hs hb
            refine wpAnyH_oneF (i := 35) rfl (by kernel_rfl) (by rfl) (fun K hK => ?_)
            go_simp
            refine (part_srcs HM2.out HSM.out E.out HA6.out HQ6.out).mono ?_
            rintro e v88 ⟨x6, c6, rfl, hs, hb⟩
            replace HS1 := Lib.hid (HS1.out.below hb)
            replace HS2 := Lib.hid (HS2.out.below hb)
            replace HS0 := Lib.hid (HS0.out.below hb)
            replace HS3 := Lib.hid (HS3.out.below hb)
            replace HS4 := Lib.hid (HS4.out.below hb)
            replace HS5 := Lib.hid (HS5.out.below hb)
            have HS6 := Lib.hid hs
            replace E := Lib.hid (E.out.trans hb)
            refine hK.out _ _ E.out ?_
            clear hK K hs hb
            refine wpAnyH_oneF (i := 38) rfl (by kernel_rfl) (by rfl) (fun K hK => ?_)
            go_simp
            refine (part_ents HM2.out HSM.out E.out HA7.out HQ7.out).mono ?_
            rintro e v90 ⟨x7, c7, rfl, hs, hb⟩
            replace HS1 := Lib.hid (HS1.out.below hb)
            replace HS2 := Lib.hid (HS2.out.below hb)
            replace HS0 := Lib.hid (HS0.out.below hb)
            replace HS3 := Lib.hid (HS3.out.below hb)
            replace HS4 := Lib.hid (HS4.out.below hb)
            replace HS5 := Lib.hid (HS5.out.below hb)
            replace HS6 := Lib.hid (HS6.out.below hb)
            have HS7 := Lib.hid hs
            replace E := Lib.hid (E.out.trans hb)
            refine hK.out _ _ E.out ?_
            clear hK K hs hb
            refine wpAnyH_oneF (i := 39) rfl (by kernel_rfl) (by rfl) (fun K hK => ?_)
            go_simp
            have HG := Lib.hid (rows_eight rfl HQ1.out HQ2.out HQ3.out HQ4.out HQ5.out HQ6.out HQ7.out HS0.out HS1.out HS2.out HS3.out HS4.out HS5.out HS6.out HS7.out)
            replace E := Lib.hid (E.out.trans (below_one v90 (.cells #[.slice (some ⟨v60.heap.size, 0, none⟩) 1 1, .slice x1 q1 c1, .slice x2 q2 c2, .slice x3 q3 c3, .slice x4 q4 c4, .slice x5 q5 c5, .slice x6 q6 c6, .slice x7 q7 c7] 28)))
            refine hK.out _ _ E.out ?_
            clear hK K HS0 HS1 HS2 HS3 HS4 HS5 HS6 HS7
            generalize v90.alloc (.cells #[.slice (some ⟨v60.heap.size, 0, none⟩) 1 1, .slice x1 q1 c1, .slice x2 q2 c2, .slice x3 q3 c3, .slice x4 q4 c4, .slice x5 q5 c5, .slice x6 q6 c6, .slice x7 q7 c7] 28) = v94 at *
            refine wpAnyH_oneF (i := 40) rfl (by kernel_rfl) (by rfl) (fun K hK => ?_)
            go_simp
            refine (concat_own _ 8 8 _ _ rfl HG.out (by rw [HBOD.out, HLB.out]; exact HLL.out.1) (by rw [HBOD.out, HLB.out]; exact Nat.le_trans HLL.out.2 (by omega))).mono ?_
            rintro e wz ⟨g, c, rfl, ho, hb⟩
            rw [HBOD.out] at ho ⊢
            rw [HLB.out]
            have EF := Lib.hid (E.out.trans hb)
            have HOF := Lib.hid (ho.base (Nat.le_trans HB2.out.size E.out.size))
            have HBF := Lib.hid (HB2.out.trans (EF.out.mono HB2.out.size))
            refine hK.out _ _ EF.out ?_
            clear hK K hb ho HG E
            refine wpAnyH_now EF.out ?_
            refine wpAnyH_tk (i := 41) 4 (v := ?_) rfl rfl (by kernel_rfl) (by kernel_rfl) (by kernel_rfl) (by rfl) (fun wq hwq => ?_) ?_
            rotate_left
            · (go_simp <;> with_reducible rfl)
            simp only [List.setIfInBounds_toArray, List.set_cons_zero, List.set_cons_succ]
            refine wpAnyH_done (by kernel_rfl) ?_ _
            refine NoPanic.normal ?_
            refine hKK _ _ (Met.intro (hJJ _ _ ?_))
            (repeat apply Exists.intro)
            exact ⟨⟨g, c, rfl, HOF, HBF⟩, rfl⟩
          · skip
            go_simp
            refine (part_ent HM2.out HSM.out E.out HA3.out HQ3.out).mono ?_
            rintro e v80 ⟨x3, c3, rfl, hs, hb⟩
            replace HS1 := Lib.hid (HS1.out.below hb)
            replace HS2 := Lib.hid (HS2.out.below hb)
            have HS3 := Lib.hid hs
            replace E := Lib.hid (E.out.trans hb)
            refine hK.out _ _ E.out ?_
            clear hK K hs hb
            refine wpAnyH_twoF (i := 0) (j := 29) rfl rfl (by kernel_rfl) (by rfl) (by rfl) (fun K hK => ?_) (fun K hK => ?_)
            · skip
              go_simp
              have hb := below_one v80 (.cells #[.int .u8 1] 5)
              replace HS1 := Lib.hid (HS1.out.below hb)
              replace HS2 := Lib.hid (HS2.out.below hb)
              replace HS3 := Lib.hid (HS3.out.below hb)
              have HS0 := Lib.hid (seen_oneB v80)
              replace E := Lib.hid (E.out.trans hb)
              refine hK.out _ _ E.out ?_
              clear hK K hb
              generalize v80.alloc (.cells #[.int .u8 1] 5) = v96 at *
              refine wpAnyH_oneF (i := 29) rfl (by kernel_rfl) (by rfl) (fun K hK => ?_)
              go_simp
              refine (part_frs HM2.out HSM.out E.out HA4.out HQ4.out).mono ?_
              rintro e v100 ⟨x4, c4, rfl, hs, hb⟩
              replace HS1 := Lib.hid (HS1.out.below hb)
              replace HS2 := Lib.hid (HS2.out.below hb)
              replace HS3 := Lib.hid (HS3.out.below hb)
              replace HS0 := Lib.hid (HS0.out.below hb)
              have HS4 := Lib.hid hs
              replace E := Lib.hid (E.out.trans hb)
              refine hK.out _ _ E.out ?_
              clear hK K hs hb
              refine wpAnyH_oneF (i := 32) rfl (by kernel_rfl) (by rfl) (fun K hK => ?_)
              go_simp
              refine (part_keys HM2.out HSM.out E.out HA5.out HQ5.out).mono ?_
              rintro e v102 ⟨x5, c5, rfl, hs, hb⟩
              replace HS1 := Lib.hid (HS1.out.below hb)
              replace HS2 := Lib.hid (HS2.out.below hb)
              replace HS3 := Lib.hid (HS3.out.below hb)
              replace HS0 := Lib.hid (HS0.out.below hb)
              replace HS4 := Lib.hid (HS4.out.below hb)
              have HS5 := Lib.hid hs
              replace E := Lib.hid (E.out.trans hb)
              refine hK.out _ _ E.out ?_
              clear hK K hs hb
              refine wpAnyH_oneF (i := 35) rfl (by kernel_rfl) (by rfl) (fun K hK => ?_)
              go_simp
              refine (part_srcs HM2.out HSM.out E.out HA6.out HQ6.out).mono ?_
              rintro e v104 ⟨x6, c6, rfl, hs, hb⟩
              replace HS1 := Lib.hid (HS1.out.below hb)
              replace HS2 := Lib.hid (HS2.out.below hb)
              replace HS3 := Lib.hid (HS3.out.below hb)
              replace HS0 := Lib.hid (HS0.out.below hb)
              replace HS4 := Lib.hid (HS4.out.below hb)
              replace HS5 := Lib.hid (HS5.out.below hb)
              have HS6 := Lib.hid hs
              replace E := Lib.hid (E.out.trans hb)
              refine hK.out _ _ E.out ?_
              clear hK K hs hb
              refine wpAnyH_oneF (i := 38) rfl (by kernel_rfl) (by rfl) (fun K hK => ?_)
              go_simp
              refine (part_ents HM2.out HSM.out E.out HA7.out HQ7.out).mono ?_
              rintro e v106 ⟨x7, c7, rfl, hs, hb⟩
              replace HS1 := Lib.hid (HS1.out.below hb)
              replace HS2 := Lib.hid (HS2.out.below hb)
              replace HS3 := Lib.hid (HS3.out.below hb)
              replace HS0 := Lib.hid (HS0.out.below hb)
              replace HS4 := Lib.hid (HS4.out.below hb)
              replace HS5 := Lib.hid (HS5.out.below hb)
              replace HS6 := Lib.hid (HS6.out.below hb)
              have HS7 := Lib.hid hs
              replace E := Lib.hid (E.out.trans hb)
              refine hK.out _ _ E.out ?_
              clear hK K hs hb
              refine wpAnyH_oneF (i := 39) rfl (by kernel_rfl) (by rfl) (fun K hK => ?_)
              go_simp
              have HG := Lib.hid (rows_eight rfl HQ1.out HQ2.out HQ3.out HQ4.out HQ5.out HQ6.out HQ7.out HS0.out HS1.out HS2.out HS3.out HS4.out HS5.out HS6.out HS7.out)
              replace E := Lib.hid (E.out.trans (below_one v106 (.cells #[.slice (some ⟨v80.heap.size, 0, none⟩) 1 1, .slice x1 q1 c1, .slice x2 q2 c2, .slice x3 q3 c3, .slice x4 q4 c4, .slice x5 q5 c5, .slice x6 q6 c6, .slice x7 q7 c7] 28)))
              refine hK.out _ _ E.out ?_
              clear hK K HS0 HS1 HS2 HS3 HS4 HS5 HS6 HS7
              generalize v106.alloc (.cells #[.slice (some ⟨v80.heap.size, 0, none⟩) 1 1, .slice x1 q1 c1, .slice x2 q2 c2, .slice x3 q3 c3, .slice x4 q4 c4, .slice x5 q5 c5, .slice x6 q6 c6, .slice x7 q7 c7] 28) = v110 at *
              refine wpAnyH_oneF (i := 40) rfl (by kernel_rfl) (by rfl) (fun K hK => ?_)
              go_simp
              refine (concat_own _ 8 8 _ _ rfl HG.out (by rw [HBOD.out, HLB.out]; exact HLL.out.1) (by rw [HBOD.out, HLB.out]; exact Nat.le_trans HLL.out.2 (by omega))).mono ?_
              rintro e wz ⟨g, c, rfl, ho, hb⟩
              rw [HBOD.out] at ho ⊢
              rw [HLB.out]
              have EF := Lib.hid (E.out.trans hb)
              have HOF := Lib.hid (ho.base (Nat.le_trans HB2.out.size E.out.size))
              have HBF := Lib.hid (HB2.out.trans (EF.out.mono HB2.out.size))
              refine hK.out _ _ EF.out ?_
              clear hK K hb ho HG E
              refine wpAnyH_now EF.out ?_
              refine wpAnyH_tk (i := 41) 4 (v := ?_) rfl rfl (by kernel_rfl) (by kernel_rfl) (by kernel_rfl) (by rfl) (fun wq hwq => ?_) ?_
              rotate_left
              · (go_simp <;> with_reducible rfl)
              simp only [List.setIfInBounds_toArray, List.set_cons_zero, List.set_cons_succ]
              refine wpAnyH_done (by kernel_rfl) ?_ _
              refine NoPanic.normal ?_
              refine hKK _ _ (Met.intro (hJJ _ _ ?_))
              (repeat apply Exists.intro)
              exact ⟨⟨g, c, rfl, HOF, HBF⟩, rfl⟩
            · skip
              go_simp
              refine (part_frs HM2.out HSM.out E.out HA4.out HQ4.out).mono ?_
              rintro e v98 ⟨x4, c4, rfl, hs, hb⟩
              replace HS1 := Lib.hid (HS1.out.below hb)
              replace HS2 := Lib.hid (HS2.out.below hb)
              replace HS3 := Lib.hid (HS3.out.below hb)
              have HS4 := Lib.hid hs
              replace E := Lib.hid (E.out.trans hb)
              refine hK.out _ _ E.out ?_
              clear hK K hs hb
              refine wpAnyH_twoF (i := 0) (j := 32) rfl rfl (by kernel_rfl) (by rfl) (by rfl) (fun K hK => ?_) (fun K hK => ?_)
              · skip
                go_simp
                have hb := below_one v98 (.cells #[.int .u8 1] 5)
                replace HS1 := Lib.hid (HS1.out.below hb)
                replace HS2 := Lib.hid (HS2.out.below hb)
                replace HS3 := Lib.hid (HS3.out.below hb)
                replace HS4 := Lib.hid (HS4.out.below hb)
                have HS0 := Lib.hid (seen_oneB v98)
                replace E := Lib.hid (E.out.trans hb)
                refine hK.out _ _ E.out ?_
                clear hK K hb
                generalize v98.alloc (.cells #[.int .u8 1] 5) = v112 at *
                refine wpAnyH_oneF (i := 32) rfl (by kernel_rfl) (by rfl) (fun K hK => ?_)
                go_simp
                refine (part_keys HM2.out HSM.out E.out HA5.out HQ5.out).mono ?_
                rintro e v116 ⟨x5, c5, rfl, hs, hb⟩
                replace HS1 := Lib.hid (HS1.out.below hb)
                replace HS2 := Lib.hid (HS2.out.below hb)
                replace HS3 := Lib.hid (HS3.out.below hb)
                replace HS4 := Lib.hid (HS4.out.below hb)
                replace HS0 := Lib.hid (HS0.out.below hb)
                have HS5 := Lib.hid hs
                replace E := Lib.hid (E.out.trans hb)
                refine hK.out _ _ E.out ?_
                clear hK K hs hb
                refine wpAnyH_oneF (i := 35) rfl (by kernel_rfl) (by rfl) (fun K hK => ?_)
                go_simp
                refine (part_srcs HM2.out HSM.out E.out HA6.out HQ6.out).mono ?_
                rintro e v118 ⟨x6, c6, rfl, hs, hb⟩
                replace HS1 := Lib.hid (HS1.out.below hb)
                replace HS2 := Lib.hid (HS2.out.below hb)
                replace HS3 := Lib.hid (HS3.out.below hb)
                replace HS4 := Lib.hid (HS4.out.below hb)
                replace HS0 := Lib.hid (HS0.out.below hb)
                replace HS5 := Lib.hid (HS5.out.below hb)
                have HS6 := Lib.hid hs
                replace E := Lib.hid (E.out.trans hb)
                refine hK.out _ _ E.out ?_
                clear hK K hs hb
                refine wpAnyH_oneF (i := 38) rfl (by kernel_rfl) (by rfl) (fun K hK => ?_)
                go_simp
                refine (part_ents HM2.out HSM.out E.out HA7.out HQ7.out).mono ?_
                rintro e v120 ⟨x7, c7, rfl, hs, hb⟩
                replace HS1 := Lib.hid (HS1.out.below hb)
                replace HS2 := Lib.hid (HS2.out.below hb)
                replace HS3 := Lib.hid (HS3.out.below hb)
                replace HS4 := Lib.hid (HS4.out.below hb)
                replace HS0 := Lib.hid (HS0.out.below hb)
                replace HS5 := Lib.hid (HS5.out.below hb)
                replace HS6 := Lib.hid (HS6.out.below hb)
                have HS7 := Lib.hid hs
                replace E := Lib.hid (E.out.trans hb)
                refine hK.out _ _ E.out ?_
                clear hK K hs hb
                refine wpAnyH_oneF (i := 39) rfl (by kernel_rfl) (by rfl) (fun K hK => ?_)
                go_simp
                have HG := Lib.hid (rows_eight rfl HQ1.out HQ2.out HQ3.out HQ4.out HQ5.out HQ6.out HQ7.out HS0.out HS1.out HS2.out HS3.out HS4.out HS5.out HS6.out HS7.out)
                replace E := Lib.hid (E.out.trans (below_one v120 (.cells #[.slice (some ⟨v98.heap.size, 0, none⟩) 1 1, .slice x1 q1 c1, .slice x2 q2 c2, .slice x3 q3 c3, .slice x4 q4 c4, .slice x5 q5 c5, .slice x6 q6 c6, .slice x7 q7 c7] 28)))
                refine hK.out _ _ E.out ?_
                clear hK K HS0 HS1 HS2 HS3 HS4 HS5 HS6 HS7
                generalize v120.alloc (.cells #[.slice (some ⟨v98.heap.size, 0, none⟩) 1 1, .slice x1 q1 c1, .slice x2 q2 c2, .slice x3 q3 c3, .slice x4 q4 c4, .slice x5 q5 c5, .slice x6 q6 c6, .slice x7 q7 c7] 28) = v124 at *
                refine wpAnyH_oneF (i := 40) rfl (by kernel_rfl) (by rfl) (fun K hK => ?_)
                go_simp
                refine (concat_own _ 8 8 _ _ rfl HG.out (by rw [HBOD.out, HLB.out]; exact HLL.out.1) (by rw [HBOD.out, HLB.out]; exact Nat.le_trans HLL.out.2 (by omega))).mono ?_
                rintro e wz ⟨g, c, rfl, ho, hb⟩
                rw [HBOD.out] at ho ⊢
                rw [HLB.out]
                have EF := Lib.hid (E.out.trans hb)
                have HOF := Lib.hid (ho.base (Nat.le_trans HB2.out.size E.out.size))
                have HBF := Lib.hid (HB2.out.trans (EF.out.mono HB2.out.size))
                refine hK.out _ _ EF.out ?_
                clear hK K hb ho HG E
                refine wpAnyH_now EF.out ?_
                refine wpAnyH_tk (i := 41) 4 (v := ?_) rfl rfl (by kernel_rfl) (by kernel_rfl) (by kernel_rfl) (by rfl) (fun wq hwq => ?_) ?_
                rotate_left
                · (go_simp <;> with_reducible rfl)
                simp only [List.setIfInBounds_toArray, List.set_cons_zero, List.set_cons_succ]
                refine wpAnyH_done (by kernel_rfl) ?_ _
                refine NoPanic.normal ?_
                refine hKK _ _ (Met.intro (hJJ _ _ ?_))
                (repeat apply Exists.intro)
                exact ⟨⟨g, c, rfl, HOF, HBF⟩, rfl⟩
              · skip
                go_simp
                refine (part_keys HM2.out HSM.out E.out HA5.out HQ5.out).mono ?_
                rintro e v114 ⟨x5, c5, rfl, hs, hb⟩
                replace HS1 := Lib.hid (HS1.out.below hb)
                replace HS2 := Lib.hid (HS2.out.below hb)
                replace HS3 := Lib.hid (HS3.out.below hb)
                replace HS4 := Lib.hid (HS4.out.below hb)
                have HS5 := Lib.hid hs
                replace E := Lib.hid (E.out.trans hb)
                refine hK.out _ _ E.out ?_
                clear hK K hs hb
                refine wpAnyH_twoF (i := 0) (j := 35) rfl rfl (by kernel_rfl) (by rfl) (by rfl) (fun K hK => ?_) (fun K hK => ?_)
                · skip
                  go_simp
                  have hb := below_one v114 (.cells #[.int .u8 1] 5)
                  replace HS1 := Lib.hid (HS1.out.below hb)
                  replace HS2 := Lib.hid (HS2.out.below hb)
                  replace HS3 := Lib.hid (HS3.out.below hb)
                  replace HS4 := Lib.hid (HS4.out.below hb)
                  replace HS5 := Lib.hid (HS5.out.below hb)
                  have HS0 := Lib.hid (seen_oneB v114)
                  replace E := Lib.hid (E.out.trans hb)
                  refine hK.out _ _ E.out ?_
                  clear hK K hb
                  generalize v114.alloc (.cells #[.int .u8 1] 5) = v126 at *
                  refine wpAnyH_oneF (i := 35) rfl (by kernel_rfl) (by rfl) (fun K hK => ?_)
                  go_simp
                  refine (part_srcs HM2.out HSM.out E.out HA6.out HQ6.out).mono ?_
                  rintro e v130 ⟨x6, c6, rfl, hs, hb⟩
                  replace HS1 := Lib.hid (HS1.out.below hb)
                  replace HS2 := Lib.hid (HS2.out.below hb)
                  replace HS3 := Lib.hid (HS3.out.below hb)
                  replace HS4 := Lib.hid (HS4.out.below hb)
                  replace HS5 := Lib.hid (HS5.out.below hb)
                  replace HS0 := Lib.hid (HS0.out.below hb)
                  have HS6 := Lib.hid hs
                  replace E := Lib.hid (E.out.trans hb)
                  refine hK.out _ _ E.out ?_
                  clear hK K hs hb
                  refine wpAnyH_oneF (i := 38) rfl (by kernel_rfl) (by rfl) (fun K hK => ?_)
                  go_simp
                  refine (part_ents HM2.out HSM.out E.out HA7.out HQ7.out).mono ?_
                  rintro e v132 ⟨x7, c7, rfl, hs, hb⟩
                  replace HS1 := Lib.hid (HS1.out.below hb)
                  replace HS2 := Lib.hid (HS2.out.below hb)
                  replace HS3 := Lib.hid (HS3.out.below hb)
                  replace HS4 := Lib.hid (HS4.out.below hb)
                  replace HS5 := Lib.hid (HS5.out.below hb)
                  replace HS0 := Lib.hid (HS0.out.below hb)
                  replace HS6 := Lib.hid (HS6.out.below hb)
                  have HS7 := Lib.hid hs
                  replace E := Lib.hid (E.out.trans hb)
                  refine hK.out _ _ E.out ?_
                  clear hK K hs hb
                  refine wpAnyH_oneF (i := 39) rfl (by kernel_rfl) (by rfl) (fun K hK => ?_)
                  go_simp
                  have HG := Lib.hid (rows_eight rfl HQ1.out HQ2.out HQ3.out HQ4.out HQ5.out HQ6.out HQ7.out HS0.out HS1.out HS2.out HS3.out HS4.out HS5.out HS6.out HS7.out)
                  replace E := Lib.hid (E.out.trans (below_one v132 (.cells #[.slice (some ⟨v114.heap.size, 0, none⟩) 1 1, .slice x1 q1 c1, .slice x2 q2 c2, .slice x3 q3 c3, .slice x4 q4 c4, .slice x5 q5 c5, .slice x6 q6 c6, .slice x7 q7 c7] 28)))
                  refine hK.out _ _ E.out ?_
                  clear hK K HS0 HS1 HS2 HS3 HS4 HS5 HS6 HS7
                  generalize v132.alloc (.cells #[.slice (some ⟨v114.heap.size, 0, none⟩) 1 1, .slice x1 q1 c1, .slice x2 q2 c2, .slice x3 q3 c3, .slice x4 q4 c4, .slice x5 q5 c5, .slice x6 q6 c6, .slice x7 q7 c7] 28) = v136 at *
                  refine wpAnyH_oneF (i := 40) rfl (by kernel_rfl) (by rfl) (fun K hK => ?_)
                  go_simp
                  refine (concat_own _ 8 8 _ _ rfl HG.out (by rw [HBOD.out, HLB.out]; exact HLL.out.1) (by rw [HBOD.out, HLB.out]; exact Nat.le_trans HLL.out.2 (by omega))).mono ?_
                  rintro e wz ⟨g, c, rfl, ho, hb⟩
                  rw [HBOD.out] at ho ⊢
                  rw [HLB.out]
                  have EF := Lib.hid (E.out.trans hb)
                  have HOF := Lib.hid (ho.base (Nat.le_trans HB2.out.size E.out.size))
                  have HBF := Lib.hid (HB2.out.trans (EF.out.mono HB2.out.size))
                  refine hK.out _ _ EF.out ?_
                  clear hK K hb ho HG E
                  refine wpAnyH_now EF.out ?_
                  refine wpAnyH_tk (i := 41) 4 (v := ?_) rfl rfl (by kernel_rfl) (by kernel_rfl) (by kernel_rfl) (by rfl) (fun wq hwq => ?_) ?_
                  rotate_left
                  · (go_simp <;> with_reducible rfl)
                  simp only [List.setIfInBounds_toArray, List.set_cons_zero, List.set_cons_succ]
                  refine wpAnyH_done (by kernel_rfl) ?_ _
                  refine NoPanic.normal ?_
                  refine hKK _ _ (Met.intro (hJJ _ _ ?_))
                  (repeat apply Exists.intro)
                  exact ⟨⟨g, c, rfl, HOF, HBF⟩, rfl⟩
                · skip
                  go_simp
                  refine (part_srcs HM2.out HSM.out E.out HA6.out HQ6.out).mono ?_
                  rintro e v128 ⟨x6, c6, rfl, hs, hb⟩
                  replace HS1 := Lib.hid (HS1.out.below hb)
                  replace HS2 := Lib.hid (HS2.out.below hb)
                  replace HS3 := Lib.hid (HS3.out.below hb)
                  replace HS4 := Lib.hid (HS4.out.below hb)
                  replace HS5 := Lib.hid (HS5.out.below hb)
                  have HS6 := Lib.hid hs
                  replace E := Lib.hid (E.out.trans hb)
                  refine hK.out _ _ E.out ?_
                  clear hK K hs hb
                  refine wpAnyH_twoF (i := 0) (j := 38) rfl rfl (by kernel_rfl) (by rfl) (by rfl) (fun K hK => ?_) (fun K hK => ?_)
                  · skip
                    go_simp
                    have hb := below_one v128 (.cells #[.int .u8 1] 5)
                    replace HS1 := Lib.hid (HS1.out.below hb)
                    replace HS2 := Lib.hid (HS2.out.below hb)
                    replace HS3 := Lib.hid (HS3.out.below hb)
                    replace HS4 := Lib.hid (HS4.out.below hb)
                    replace HS5 := Lib.hid (HS5.out.below hb)
                    replace HS6 := Lib.hid (HS6.out.below hb)
                    have HS0 := Lib.hid (seen_oneB v128)
                    replace E := Lib.hid (E.out.trans hb)
                    refine hK.out _ _ E.out ?_
                    clear hK K hb
                    generalize v128.alloc (.cells #[.int .u8 1] 5) = v138 at *
                    refine wpAnyH_oneF (i := 38) rfl (by kernel_rfl) (by rfl) (fun K hK => ?_)
                    go_simp
                    refine (part_ents HM2.out HSM.out E.out HA7.out HQ7.out).mono ?_
                    rintro e v142 ⟨x7, c7, rfl, hs, hb⟩
                    replace HS1 := Lib.hid (HS1.out.below hb)
                    replace HS2 := Lib.hid (HS2.out.below hb)
                    replace HS3 := Lib.hid (HS3.out.below hb)
                    replace HS4 := Lib.hid (HS4.out.below hb)
                    replace HS5 := Lib.hid (HS5.out.below hb)
                    replace HS6 := Lib.hid (HS6.out.below hb)
                    replace HS0 := Lib.hid (HS0.out.below hb)
                    have HS7 := Lib.hid hs
                    replace E := Lib.hid (E.out.trans hb)
                    refine hK.out _ _ E.out ?_
                    clear hK K hs hb
                    refine wpAnyH_oneF (i := 39) rfl (by kernel_rfl) (by rfl) (fun K hK => ?_)
                    go_simp
                    have HG := Lib.hid (rows_eight rfl HQ1.out HQ2.out HQ3.out HQ4.out HQ5.out HQ6.out HQ7.out HS0.out HS1.out HS2.out HS3.out HS4.out HS5.out HS6.out HS7.out)
                    replace E := Lib.hid (E.out.trans (below_one v142 (.cells #[.slice (some ⟨v128.heap.size, 0, none⟩) 1 1, .slice x1 q1 c1, .slice x2 q2 c2, .slice x3 q3 c3, .slice x4 q4 c4, .slice x5 q5 c5, .slice x6 q6 c6, .slice x7 q7 c7] 28)))
                    refine hK.out _ _ E.out ?_
                    clear hK K HS0 HS1 HS2 HS3 HS4 HS5 HS6 HS7
                    generalize v142.alloc (.cells #[.slice (some ⟨v128.heap.size, 0, none⟩) 1 1, .slice x1 q1 c1, .slice x2 q2 c2, .slice x3 q3 c3, .slice x4 q4 c4, .slice x5 q5 c5, .slice x6 q6 c6, .slice x7 q7 c7] 28) = v146 at *
                    refine wpAnyH_oneF (i := 40) rfl (by kernel_rfl) (by rfl) (fun K hK => ?_)
                    go_simp
                    refine (concat_own _ 8 8 _ _ rfl HG.out (by rw [HBOD.out, HLB.out]; exact HLL.out.1) (by rw [HBOD.out, HLB.out]; exact Nat.le_trans HLL.out.2 (by omega))).mono ?_
                    rintro e wz ⟨g, c, rfl, ho, hb⟩
                    rw [HBOD.out] at ho ⊢
                    rw [HLB.out]
                    have EF := Lib.hid (E.out.trans hb)
                    have HOF := Lib.hid (ho.base (Nat.le_trans HB2.out.size E.out.size))
                    have HBF := Lib.hid (HB2.out.trans (EF.out.mono HB2.out.size))
                    refine hK.out _ _ EF.out ?_
                    clear hK K hb ho HG E
                    refine wpAnyH_now EF.out ?_
                    refine wpAnyH_tk (i := 41) 4 (v := ?_) rfl rfl (by kernel_rfl) (by kernel_rfl) (by kernel_rfl) (by rfl) (fun wq hwq => ?_) ?_
                    rotate_left
                    · (go_simp <;> with_reducible rfl)
                    simp only [List.setIfInBounds_toArray, List.set_cons_zero, List.set_cons_succ]
                    refine wpAnyH_done (by kernel_rfl) ?_ _
                    refine NoPanic.normal ?_
                    refine hKK _ _ (Met.intro (hJJ _ _ ?_))
                    (repeat apply Exists.intro)
                    exact ⟨⟨g, c, rfl, HOF, HBF⟩, rfl⟩
                  · skip
                    go_simp
                    refine (part_ents HM2.out HSM.out E.out HA7.out HQ7.out).mono ?_
                    rintro e v140 ⟨x7, c7, rfl, hs, hb⟩
                    replace HS1 := Lib.hid (HS1.out.below hb)
                    replace HS2 := Lib.hid (HS2.out.below hb)
                    replace HS3 := Lib.hid (HS3.out.below hb)
                    replace HS4 := Lib.hid (HS4.out.below hb)
                    replace HS5 := Lib.hid (HS5.out.below hb)
                    replace HS6 := Lib.hid (HS6.out.below hb)
                    have HS7 := Lib.hid hs
                    replace E := Lib.hid (E.out.trans hb)
                    refine hK.out _ _ E.out ?_
                    clear hK K hs hb
                    refine wpAnyH_oneF (i := 0) rfl (by kernel_rfl) (by rfl) (fun K hK => ?_)
                    go_simp
                    have hb := below_one v140 (.cells #[.int .u8 1] 5)
                    replace HS1 := Lib.hid (HS1.out.below hb)
                    replace HS2 := Lib.hid (HS2.out.below hb)
                    replace HS3 := Lib.hid (HS3.out.below hb)
                    replace HS4 := Lib.hid (HS4.out.below hb)
                    replace HS5 := Lib.hid (HS5.out.below hb)
                    replace HS6 := Lib.hid (HS6.out.below hb)
                    replace HS7 := Lib.hid (HS7.out.below hb)
                    have HS0 := Lib.hid (seen_oneB v140)
                    replace E := Lib.hid (E.out.trans hb)
                    refine hK.out _ _ E.out ?_
                    clear hK K hb
                    generalize v140.alloc (.cells #[.int .u8 1] 5) = v148 at *
                    refine wpAnyH_oneF (i := 39) rfl (by kernel_rfl) (by rfl) (fun K hK => ?_)
                    go_simp
                    have HG := Lib.hid (rows_eight rfl HQ1.out HQ2.out HQ3.out HQ4.out HQ5.out HQ6.out HQ7.out HS0.out HS1.out HS2.out HS3.out HS4.out HS5.out HS6.out HS7.out)
                    replace E := Lib.hid (E.out.trans (below_one v148 (.cells #[.slice (some ⟨v140.heap.size, 0, none⟩) 1 1, .slice x1 q1 c1, .slice x2 q2 c2, .slice x3 q3 c3, .slice x4 q4 c4, .slice x5 q5 c5, .slice x6 q6 c6, .slice x7 q7 c7] 28)))
                    refine hK.out _ _ E.out ?_
                    clear hK K HS0 HS1 HS2 HS3 HS4 HS5 HS6 HS7
                    generalize v148.alloc (.cells #[.slice (some ⟨v140.heap.size, 0, none⟩) 1 1, .slice x1 q1 c1, .slice x2 q2 c2, .slice x3 q3 c3, .slice x4 q4 c4, .slice x5 q5 c5, .slice x6 q6 c6, .slice x7 q7 c7] 28) = v152 at *
                    refine wpAnyH_oneF (i := 40) rfl (by kernel_rfl) (by rfl) (fun K hK => ?_)
                    go_simp
                    refine (concat_own _ 8 8 _ _ rfl HG.out (by rw [HBOD.out, HLB.out]; exact HLL.out.1) (by rw [HBOD.out, HLB.out]; exact Nat.le_trans HLL.out.2 (by omega))).mono ?_
                    rintro e wz ⟨g, c, rfl, ho, hb⟩
                    rw [HBOD.out] at ho ⊢
                    rw [HLB.out]
                    have EF := Lib.hid (E.out.trans hb)
                    have HOF := Lib.hid (ho.base (Nat.le_trans HB2.out.size E.out.size))
                    have HBF := Lib.hid (HB2.out.trans (EF.out.mono HB2.out.size))
                    refine hK.out _ _ EF.out ?_
                    clear hK K hb ho HG E
                    refine wpAnyH_now EF.out ?_
                    refine wpAnyH_tk (i := 41) 4 (v := ?_) rfl rfl (by kernel_rfl) (by kernel_rfl) (by kernel_rfl) (by rfl) (fun wq hwq => ?_) ?_
                    rotate_left
                    · (go_simp <;> with_reducible rfl)
                    simp only [List.setIfInBounds_toArray, List.set_cons_zero, List.set_cons_succ]
                    refine wpAnyH_done (by kernel_rfl) ?_ _
                    refine NoPanic.normal ?_
                    refine hKK _ _ (Met.intro (hJJ _ _ ?_))
                    (repeat apply Exists.intro)
                    exact ⟨⟨g, c, rfl, HOF, HBF⟩, rfl⟩
  case rest =>
  obtain ⟨g, c, rfl, HO, HB⟩ := hcut
  have HS := Lib.hid HO.out.seenAt
  rename_i wc
  go_wp2_with fail
  refine (checksum_own _ _ _ (bodM r.m) _ HLB.out HS.out).mono ?_
  rintro e w5 ⟨g5, c5, rfl, ho5, hb5⟩
  rw [be4_len]
  have HB5 := Lib.hid (HB.out.trans (hb5.mono HB.out.size))
  have HO5 := Lib.hid (HO.out.chg (gs := []) (Chg.of_below hb5) (by simp))
  have HS5 := Lib.hid ho5.seenAt
  have hg := HO.out.lt.1
  clear ho5 hb5
  go_wp2_with (at_builtin; refine wpList_appB rfl (.tmp 49) (.tmp 51) rfl w.heap.size g c (bodM r.m) (be4 (Crc.sum (bodM r.m))) (by rw [HLB.out]; rfl) HO5.out _ _ (by rw [be4_len]; rfl) HS5.out (by rw [be4_len, HLB.out]; have := HLL.out.2; omega) HB5.out.size ?_; intro g6 c6 w6 ho6 chg6 hg6; rw [HENC.out] at ho6 ⊢)
  have HF : Hid (RetE w (encMg r.m) (.returned (.tuple #[.slice (some ⟨g6, 0, none⟩) (encMg r.m).length c6, .int .i64 0])) w6) := ⟨g6, c6, rfl, ho6, chg6.below HB5.out HB5.out.size (by simp; omega)⟩
  clear ho6 chg6 hg6
  generalize (encMg r.m).length = q6 at *
  go_wp2
  go_ret2
  exact HF.out

end Go.Proofs.YtggjpjpemgpeeaaGreat
