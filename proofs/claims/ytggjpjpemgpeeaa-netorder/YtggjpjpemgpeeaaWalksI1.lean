/-
  SameMsg; the program's Same; the law's light.
-/
import Derived.Test.YtggjpjpemgpeeaaWalksH3
import Derived.Test.YtggjpjpemgpeeaaWalksH6
import Derived.Test.YtggjpjpemgpeeaaWalksI0
namespace Go.Proofs.Ytggjpjpemgpeeaa
open Go.RowKit


theorem exec_ldM {ev : Operand → Value} {o : Oper} {w : World} (s : Operand) (B : Nat) (C : Array Value) (ho : o.op = .load 35 s) (hs : ev s = .pointer (some ⟨B, 0, none⟩)) (hn : C.size = 19) (hb : Box w B C) : (execOp ev o).run Try.prog w = .ok (.value (.agg C)) w := by
  have hrun := run_ldM B C hn hb
  simp [execOp, ho, hs, hrun, Result.andThen]


set_option maxRecDepth 100000 in
set_option maxHeartbeats 2000000 in
theorem sameMsg_any (r r' : Rm) (w : World) (h : MsgAt w r) (hs : SndMg r.m) (h' : MsgAt w r') (hs' : SndMg r'.m) :
    Calls Try.prog 18 #[.agg r.cells, .agg r'.cells] w fun e w' => e = .returned (.bool (decide (encMg r.m = encMg r'.m))) ∧ Below w.heap.size w w' := by
  show Calls Try.prog 18 #[.agg #[.int .i64 r.m.kind, .int .i64 r.m.frm, .int .i64 r.m.to, .int .i64 r.m.epoch, .int .i64 r.m.ent.seq, .int .i64 r.m.ent.client, .int .i64 r.m.ent.num, .int .i64 r.m.ent.op, .string (strB r.m.ent.key), .int .i64 r.m.ent.size, .int .u32 (r.m.ent.sum : Int), .slice r.loc r.el r.c, .int .i64 r.m.e, .slice r.fa r.fl r.fc, .slice r.ka r.kl r.kc, .int .i64 r.m.cep, .slice r.ma r.ml r.mc, .slice r.sa r.sl r.sc, .slice r.na r.nl r.nc], .agg #[.int .i64 r'.m.kind, .int .i64 r'.m.frm, .int .i64 r'.m.to, .int .i64 r'.m.epoch, .int .i64 r'.m.ent.seq, .int .i64 r'.m.ent.client, .int .i64 r'.m.ent.num, .int .i64 r'.m.ent.op, .string (strB r'.m.ent.key), .int .i64 r'.m.ent.size, .int .u32 (r'.m.ent.sum : Int), .slice r'.loc r'.el r'.c, .int .i64 r'.m.e, .slice r'.fa r'.fl r'.fc, .slice r'.ka r'.kl r'.kc, .int .i64 r'.m.cep, .slice r'.ma r'.ml r'.mc, .slice r'.sa r'.sl r'.sc, .slice r'.na r'.nl r'.nc]] w _
  have HX0 : Hid (Box ((w.alloc (.cells #[.int .i64 r.m.kind, .int .i64 r.m.frm, .int .i64 r.m.to, .int .i64 r.m.epoch, .int .i64 r.m.ent.seq, .int .i64 r.m.ent.client, .int .i64 r.m.ent.num, .int .i64 r.m.ent.op, .string (strB r.m.ent.key), .int .i64 r.m.ent.size, .int .u32 (r.m.ent.sum : Int), .slice r.loc r.el r.c, .int .i64 r.m.e, .slice r.fa r.fl r.fc, .slice r.ka r.kl r.kc, .int .i64 r.m.cep, .slice r.ma r.ml r.mc, .slice r.sa r.sl r.sc, .slice r.na r.nl r.nc] 35)).alloc (.cells #[.int .i64 r'.m.kind, .int .i64 r'.m.frm, .int .i64 r'.m.to, .int .i64 r'.m.epoch, .int .i64 r'.m.ent.seq, .int .i64 r'.m.ent.client, .int .i64 r'.m.ent.num, .int .i64 r'.m.ent.op, .string (strB r'.m.ent.key), .int .i64 r'.m.ent.size, .int .u32 (r'.m.ent.sum : Int), .slice r'.loc r'.el r'.c, .int .i64 r'.m.e, .slice r'.fa r'.fl r'.fc, .slice r'.ka r'.kl r'.kc, .int .i64 r'.m.cep, .slice r'.ma r'.ml r'.mc, .slice r'.sa r'.sl r'.sc, .slice r'.na r'.nl r'.nc] 35)) w.heap.size r.cells) := (box_new w r.cells 35 _ rfl).below (below_one _ _)
  have HY0 : Hid (Box ((w.alloc (.cells #[.int .i64 r.m.kind, .int .i64 r.m.frm, .int .i64 r.m.to, .int .i64 r.m.epoch, .int .i64 r.m.ent.seq, .int .i64 r.m.ent.client, .int .i64 r.m.ent.num, .int .i64 r.m.ent.op, .string (strB r.m.ent.key), .int .i64 r.m.ent.size, .int .u32 (r.m.ent.sum : Int), .slice r.loc r.el r.c, .int .i64 r.m.e, .slice r.fa r.fl r.fc, .slice r.ka r.kl r.kc, .int .i64 r.m.cep, .slice r.ma r.ml r.mc, .slice r.sa r.sl r.sc, .slice r.na r.nl r.nc] 35)).alloc (.cells #[.int .i64 r'.m.kind, .int .i64 r'.m.frm, .int .i64 r'.m.to, .int .i64 r'.m.epoch, .int .i64 r'.m.ent.seq, .int .i64 r'.m.ent.client, .int .i64 r'.m.ent.num, .int .i64 r'.m.ent.op, .string (strB r'.m.ent.key), .int .i64 r'.m.ent.size, .int .u32 (r'.m.ent.sum : Int), .slice r'.loc r'.el r'.c, .int .i64 r'.m.e, .slice r'.fa r'.fl r'.fc, .slice r'.ka r'.kl r'.kc, .int .i64 r'.m.cep, .slice r'.ma r'.ml r'.mc, .slice r'.sa r'.sl r'.sc, .slice r'.na r'.nl r'.nc] 35)) (w.heap.size + 1) r'.cells) := box_new (w.alloc (.cells #[.int .i64 r.m.kind, .int .i64 r.m.frm, .int .i64 r.m.to, .int .i64 r.m.epoch, .int .i64 r.m.ent.seq, .int .i64 r.m.ent.client, .int .i64 r.m.ent.num, .int .i64 r.m.ent.op, .string (strB r.m.ent.key), .int .i64 r.m.ent.size, .int .u32 (r.m.ent.sum : Int), .slice r.loc r.el r.c, .int .i64 r.m.e, .slice r.fa r.fl r.fc, .slice r.ka r.kl r.kc, .int .i64 r.m.cep, .slice r.ma r.ml r.mc, .slice r.sa r.sl r.sc, .slice r.na r.nl r.nc] 35)) r'.cells 35 _ (by simp)
  have E0 : Hid (Ext w ((w.alloc (.cells #[.int .i64 r.m.kind, .int .i64 r.m.frm, .int .i64 r.m.to, .int .i64 r.m.epoch, .int .i64 r.m.ent.seq, .int .i64 r.m.ent.client, .int .i64 r.m.ent.num, .int .i64 r.m.ent.op, .string (strB r.m.ent.key), .int .i64 r.m.ent.size, .int .u32 (r.m.ent.sum : Int), .slice r.loc r.el r.c, .int .i64 r.m.e, .slice r.fa r.fl r.fc, .slice r.ka r.kl r.kc, .int .i64 r.m.cep, .slice r.ma r.ml r.mc, .slice r.sa r.sl r.sc, .slice r.na r.nl r.nc] 35)).alloc (.cells #[.int .i64 r'.m.kind, .int .i64 r'.m.frm, .int .i64 r'.m.to, .int .i64 r'.m.epoch, .int .i64 r'.m.ent.seq, .int .i64 r'.m.ent.client, .int .i64 r'.m.ent.num, .int .i64 r'.m.ent.op, .string (strB r'.m.ent.key), .int .i64 r'.m.ent.size, .int .u32 (r'.m.ent.sum : Int), .slice r'.loc r'.el r'.c, .int .i64 r'.m.e, .slice r'.fa r'.fl r'.fc, .slice r'.ka r'.kl r'.kc, .int .i64 r'.m.cep, .slice r'.ma r'.ml r'.mc, .slice r'.sa r'.sl r'.sc, .slice r'.na r'.nl r'.nc] 35))) := (below_one w _).alloc (by simp) _
  have H := Lib.hid h
  have H' := Lib.hid h'
  have HS := Lib.hid hs
  have HS' := Lib.hid hs'
  have HF : Hid (((strB (encMg r.m)).toList == (strB (encMg r'.m)).toList) = decide (encMg r.m = encMg r'.m)) := strB_beq (encMg_bytes h.wf hs) (encMg_bytes h'.wf hs')
  clear h h' hs hs'
  obtain ⟨ans, hans⟩ : ∃ q, decide (encMg r.m = encMg r'.m) = q := ⟨_, rfl⟩
  rw [hans] at HF
  have HANS := Lib.hid hans
  clear hans
  obtain ⟨q, hq⟩ : ∃ q, (encMg r.m).length = q := ⟨_, rfl⟩
  obtain ⟨q', hq'⟩ : ∃ q, (encMg r'.m).length = q := ⟨_, rfl⟩
  have Q := Lib.hid hq
  have Q' := Lib.hid hq'
  clear hq hq'
  have ST := Lib.hid (fun (w' : World) x c (h : SeenAt w' x c (encMg r.m)) => str_at h Q.out)
  have ST' := Lib.hid (fun (w' : World) x c (h : SeenAt w' x c (encMg r'.m)) => str_at h Q'.out)
  generalize strB (encMg r.m) = sr at *
  generalize strB (encMg r'.m) = sr' at *
  go_enter Try.func18, Try.ntmps18
  go_wp2_with fail
  refine wp_region_ext (by kernel_rfl) ?_
  have HX1 := Lib.hid (HX0.out.below (Below.refl _ _).drew)
  have HY1 := Lib.hid (HY0.out.below (Below.refl _ _).drew)
  have E1 := Lib.hid (E0.out.trans (Below.refl _ _).drew)
  generalize ((w.alloc (.cells #[.int .i64 r.m.kind, .int .i64 r.m.frm, .int .i64 r.m.to, .int .i64 r.m.epoch, .int .i64 r.m.ent.seq, .int .i64 r.m.ent.client, .int .i64 r.m.ent.num, .int .i64 r.m.ent.op, .string (strB r.m.ent.key), .int .i64 r.m.ent.size, .int .u32 (r.m.ent.sum : Int), .slice r.loc r.el r.c, .int .i64 r.m.e, .slice r.fa r.fl r.fc, .slice r.ka r.kl r.kc, .int .i64 r.m.cep, .slice r.ma r.ml r.mc, .slice r.sa r.sl r.sc, .slice r.na r.nl r.nc] 35)).alloc (.cells #[.int .i64 r'.m.kind, .int .i64 r'.m.frm, .int .i64 r'.m.to, .int .i64 r'.m.epoch, .int .i64 r'.m.ent.seq, .int .i64 r'.m.ent.client, .int .i64 r'.m.ent.num, .int .i64 r'.m.ent.op, .string (strB r'.m.ent.key), .int .i64 r'.m.ent.size, .int .u32 (r'.m.ent.sum : Int), .slice r'.loc r'.el r'.c, .int .i64 r'.m.e, .slice r'.fa r'.fl r'.fc, .slice r'.ka r'.kl r'.kc, .int .i64 r'.m.cep, .slice r'.ma r'.ml r'.mc, .slice r'.sa r'.sl r'.sc, .slice r'.na r'.nl r'.nc] 35)).drew = w0 at *
  clear HX0 HY0 E0
  refine wpAnyH_tk (i := 0) 5 (v := .agg r.cells) rfl rfl (by kernel_rfl) (by kernel_rfl) (by kernel_rfl) (by rfl) (fun wq hwq => exec_ldM _ _ _ rfl rfl rfl ((HX1.out).below hwq)) ?_
  simp only [List.setIfInBounds_toArray, List.set_cons_zero, List.set_cons_succ]
  refine wpAnyH_tk (i := 3) 8 (v := .agg r'.cells) rfl rfl (by kernel_rfl) (by kernel_rfl) (by kernel_rfl) (by rfl) (fun wq hwq => exec_ldM _ _ _ rfl rfl rfl ((HY1.out).below hwq)) ?_
  simp only [List.setIfInBounds_toArray, List.set_cons_zero, List.set_cons_succ]
  refine wpAnyH_one (i := 1) rfl (by kernel_rfl) (by rfl) (fun K hK => ?_)
  go_simp
  refine (message_own r _ (H.out.below E1.out) HS.out).mono ?_
  rintro e w1 ⟨g1, c1, rfl, ho1, hb1⟩
  have E2 := Lib.hid (E1.out.trans hb1)
  have X1 := Lib.hid ho1.seenAt
  rw [Q.out]
  refine hK.out _ _ hb1 ?_
  clear hK K
  refine wpAnyH_tk (i := 2) 7 (v := ?_) rfl rfl (by kernel_rfl) (by kernel_rfl) (by kernel_rfl) (by rfl) (fun wq hwq => ?_) ?_
  rotate_left
  · (have hx := ST.out wq _ _ (X1.out.below hwq); go_simp <;> with_reducible rfl)
  simp only [List.setIfInBounds_toArray, List.set_cons_zero, List.set_cons_succ]
  refine wpAnyH_one (i := 4) rfl (by kernel_rfl) (by rfl) (fun K hK => ?_)
  go_simp
  refine (message_own r' _ (H'.out.below E2.out) HS'.out).mono ?_
  rintro e w2 ⟨g2, c2, rfl, ho2, hb2⟩
  have E3 := Lib.hid (E2.out.trans hb2)
  have X2 := Lib.hid ho2.seenAt
  rw [Q'.out]
  refine hK.out _ _ hb2 ?_
  clear hK K
  refine wpAnyH_tk (i := 5) 10 (v := ?_) rfl rfl (by kernel_rfl) (by kernel_rfl) (by kernel_rfl) (by rfl) (fun wq hwq => ?_) ?_
  rotate_left
  · (have hx := ST'.out wq _ _ (X2.out.below hwq); go_simp <;> with_reducible rfl)
  simp only [List.setIfInBounds_toArray, List.set_cons_zero, List.set_cons_succ]
  refine wpAnyH_tk (i := 6) 11 (v := ?_) rfl rfl (by kernel_rfl) (by kernel_rfl) (by kernel_rfl) (by rfl) (fun wq hwq => ?_) ?_
  rotate_left
  · (have hx := HF.out; go_simp <;> with_reducible rfl)
  simp only [List.setIfInBounds_toArray, List.set_cons_zero, List.set_cons_succ]
  refine wpAnyH_tk (i := 7) 4 (v := ?_) rfl rfl (by kernel_rfl) (by kernel_rfl) (by kernel_rfl) (by rfl) (fun wq hwq => ?_) ?_
  rotate_left
  · (go_simp <;> with_reducible rfl)
  simp only [List.setIfInBounds_toArray, List.set_cons_zero, List.set_cons_succ]
  refine wpAnyH_done (by kernel_rfl) ?_ _
  refine NoPanic.normal ?_
  go_wp2
  go_ret
  exact ⟨ret_boolean HANS.out.symm, E3.out⟩

theorem sameMsg_self (r r' : Rm) (w : World) (h : MsgAt w r) (h' : MsgAt w r') (e : r.m = r'.m) (hs : SndMg r.m) :
    Calls Try.prog 18 #[.agg r.cells, .agg r'.cells] w fun e w' => e = .returned (.bool true) ∧ Below w.heap.size w w' :=
  (sameMsg_any r r' w h hs h' (e ▸ hs)).mono fun x w' hx => by
    rw [show decide (encMg r.m = encMg r'.m) = true by rw [e]; simp] at hx
    exact hx

/-- Same's answer. -/
def smB (a b : Pm) : Bool := sndMg a && sndMg b && decide (encMg a = encMg b)

set_option maxRecDepth 100000 in
set_option maxHeartbeats 4000000 in
theorem msgSame_any (r r' : Rm) (w : World) (h : MsgAt w r) (h' : MsgAt w r') :
    Calls Try.prog 19 #[.agg r.cells, .agg r'.cells] w fun e w' => e = .returned (.bool (smB r.m r'.m)) ∧ Below w.heap.size w w' := by
  show Calls Try.prog 19 #[.agg #[.int .i64 r.m.kind, .int .i64 r.m.frm, .int .i64 r.m.to, .int .i64 r.m.epoch, .int .i64 r.m.ent.seq, .int .i64 r.m.ent.client, .int .i64 r.m.ent.num, .int .i64 r.m.ent.op, .string (strB r.m.ent.key), .int .i64 r.m.ent.size, .int .u32 (r.m.ent.sum : Int), .slice r.loc r.el r.c, .int .i64 r.m.e, .slice r.fa r.fl r.fc, .slice r.ka r.kl r.kc, .int .i64 r.m.cep, .slice r.ma r.ml r.mc, .slice r.sa r.sl r.sc, .slice r.na r.nl r.nc], .agg #[.int .i64 r'.m.kind, .int .i64 r'.m.frm, .int .i64 r'.m.to, .int .i64 r'.m.epoch, .int .i64 r'.m.ent.seq, .int .i64 r'.m.ent.client, .int .i64 r'.m.ent.num, .int .i64 r'.m.ent.op, .string (strB r'.m.ent.key), .int .i64 r'.m.ent.size, .int .u32 (r'.m.ent.sum : Int), .slice r'.loc r'.el r'.c, .int .i64 r'.m.e, .slice r'.fa r'.fl r'.fc, .slice r'.ka r'.kl r'.kc, .int .i64 r'.m.cep, .slice r'.ma r'.ml r'.mc, .slice r'.sa r'.sl r'.sc, .slice r'.na r'.nl r'.nc]] w _
  have HX0 : Hid (Box ((w.alloc (.cells #[.int .i64 r.m.kind, .int .i64 r.m.frm, .int .i64 r.m.to, .int .i64 r.m.epoch, .int .i64 r.m.ent.seq, .int .i64 r.m.ent.client, .int .i64 r.m.ent.num, .int .i64 r.m.ent.op, .string (strB r.m.ent.key), .int .i64 r.m.ent.size, .int .u32 (r.m.ent.sum : Int), .slice r.loc r.el r.c, .int .i64 r.m.e, .slice r.fa r.fl r.fc, .slice r.ka r.kl r.kc, .int .i64 r.m.cep, .slice r.ma r.ml r.mc, .slice r.sa r.sl r.sc, .slice r.na r.nl r.nc] 35)).alloc (.cells #[.int .i64 r'.m.kind, .int .i64 r'.m.frm, .int .i64 r'.m.to, .int .i64 r'.m.epoch, .int .i64 r'.m.ent.seq, .int .i64 r'.m.ent.client, .int .i64 r'.m.ent.num, .int .i64 r'.m.ent.op, .string (strB r'.m.ent.key), .int .i64 r'.m.ent.size, .int .u32 (r'.m.ent.sum : Int), .slice r'.loc r'.el r'.c, .int .i64 r'.m.e, .slice r'.fa r'.fl r'.fc, .slice r'.ka r'.kl r'.kc, .int .i64 r'.m.cep, .slice r'.ma r'.ml r'.mc, .slice r'.sa r'.sl r'.sc, .slice r'.na r'.nl r'.nc] 35)) w.heap.size r.cells) := (box_new w r.cells 35 _ rfl).below (below_one _ _)
  have HY0 : Hid (Box ((w.alloc (.cells #[.int .i64 r.m.kind, .int .i64 r.m.frm, .int .i64 r.m.to, .int .i64 r.m.epoch, .int .i64 r.m.ent.seq, .int .i64 r.m.ent.client, .int .i64 r.m.ent.num, .int .i64 r.m.ent.op, .string (strB r.m.ent.key), .int .i64 r.m.ent.size, .int .u32 (r.m.ent.sum : Int), .slice r.loc r.el r.c, .int .i64 r.m.e, .slice r.fa r.fl r.fc, .slice r.ka r.kl r.kc, .int .i64 r.m.cep, .slice r.ma r.ml r.mc, .slice r.sa r.sl r.sc, .slice r.na r.nl r.nc] 35)).alloc (.cells #[.int .i64 r'.m.kind, .int .i64 r'.m.frm, .int .i64 r'.m.to, .int .i64 r'.m.epoch, .int .i64 r'.m.ent.seq, .int .i64 r'.m.ent.client, .int .i64 r'.m.ent.num, .int .i64 r'.m.ent.op, .string (strB r'.m.ent.key), .int .i64 r'.m.ent.size, .int .u32 (r'.m.ent.sum : Int), .slice r'.loc r'.el r'.c, .int .i64 r'.m.e, .slice r'.fa r'.fl r'.fc, .slice r'.ka r'.kl r'.kc, .int .i64 r'.m.cep, .slice r'.ma r'.ml r'.mc, .slice r'.sa r'.sl r'.sc, .slice r'.na r'.nl r'.nc] 35)) (w.heap.size + 1) r'.cells) := box_new (w.alloc (.cells #[.int .i64 r.m.kind, .int .i64 r.m.frm, .int .i64 r.m.to, .int .i64 r.m.epoch, .int .i64 r.m.ent.seq, .int .i64 r.m.ent.client, .int .i64 r.m.ent.num, .int .i64 r.m.ent.op, .string (strB r.m.ent.key), .int .i64 r.m.ent.size, .int .u32 (r.m.ent.sum : Int), .slice r.loc r.el r.c, .int .i64 r.m.e, .slice r.fa r.fl r.fc, .slice r.ka r.kl r.kc, .int .i64 r.m.cep, .slice r.ma r.ml r.mc, .slice r.sa r.sl r.sc, .slice r.na r.nl r.nc] 35)) r'.cells 35 _ (by simp)
  have E0 : Hid (Ext w ((w.alloc (.cells #[.int .i64 r.m.kind, .int .i64 r.m.frm, .int .i64 r.m.to, .int .i64 r.m.epoch, .int .i64 r.m.ent.seq, .int .i64 r.m.ent.client, .int .i64 r.m.ent.num, .int .i64 r.m.ent.op, .string (strB r.m.ent.key), .int .i64 r.m.ent.size, .int .u32 (r.m.ent.sum : Int), .slice r.loc r.el r.c, .int .i64 r.m.e, .slice r.fa r.fl r.fc, .slice r.ka r.kl r.kc, .int .i64 r.m.cep, .slice r.ma r.ml r.mc, .slice r.sa r.sl r.sc, .slice r.na r.nl r.nc] 35)).alloc (.cells #[.int .i64 r'.m.kind, .int .i64 r'.m.frm, .int .i64 r'.m.to, .int .i64 r'.m.epoch, .int .i64 r'.m.ent.seq, .int .i64 r'.m.ent.client, .int .i64 r'.m.ent.num, .int .i64 r'.m.ent.op, .string (strB r'.m.ent.key), .int .i64 r'.m.ent.size, .int .u32 (r'.m.ent.sum : Int), .slice r'.loc r'.el r'.c, .int .i64 r'.m.e, .slice r'.fa r'.fl r'.fc, .slice r'.ka r'.kl r'.kc, .int .i64 r'.m.cep, .slice r'.ma r'.ml r'.mc, .slice r'.sa r'.sl r'.sc, .slice r'.na r'.nl r'.nc] 35))) := (below_one w _).alloc (by simp) _
  have H0 := Lib.hid (h.below E0.out)
  have H0' := Lib.hid (h'.below E0.out)
  have HD : Hid (smB r.m r'.m = (sndMg r.m && sndMg r'.m && decide (encMg r.m = encMg r'.m))) := rfl
  clear h h'
  go_enter Try.func19, Try.ntmps19
  go_wp2_with (first | refine wpList_ldM _ _ _ rfl rfl rfl rfl HX0.out ?_ | (refine wpList_ung (by rfl) ?_; refine wpList_ldM _ _ _ rfl rfl rfl rfl HX0.out ?_) | refine wpList_ldM _ _ _ rfl rfl rfl rfl HY0.out ?_ | (refine wpList_ung (by rfl) ?_; refine wpList_ldM _ _ _ rfl rfl rfl rfl HY0.out ?_))
  generalize ((w.alloc (.cells #[.int .i64 r.m.kind, .int .i64 r.m.frm, .int .i64 r.m.to, .int .i64 r.m.epoch, .int .i64 r.m.ent.seq, .int .i64 r.m.ent.client, .int .i64 r.m.ent.num, .int .i64 r.m.ent.op, .string (strB r.m.ent.key), .int .i64 r.m.ent.size, .int .u32 (r.m.ent.sum : Int), .slice r.loc r.el r.c, .int .i64 r.m.e, .slice r.fa r.fl r.fc, .slice r.ka r.kl r.kc, .int .i64 r.m.cep, .slice r.ma r.ml r.mc, .slice r.sa r.sl r.sc, .slice r.na r.nl r.nc] 35)).alloc (.cells #[.int .i64 r'.m.kind, .int .i64 r'.m.frm, .int .i64 r'.m.to, .int .i64 r'.m.epoch, .int .i64 r'.m.ent.seq, .int .i64 r'.m.ent.client, .int .i64 r'.m.ent.num, .int .i64 r'.m.ent.op, .string (strB r'.m.ent.key), .int .i64 r'.m.ent.size, .int .u32 (r'.m.ent.sum : Int), .slice r'.loc r'.el r'.c, .int .i64 r'.m.e, .slice r'.fa r'.fl r'.fc, .slice r'.ka r'.kl r'.kc, .int .i64 r'.m.cep, .slice r'.ma r'.ml r'.mc, .slice r'.sa r'.sl r'.sc, .slice r'.na r'.nl r'.nc] 35)) = w0 at *
  cases hs : sndMg r.m
  · have HN := Lib.hid hs
    have HF : Hid (false = smB r.m r'.m) := by show _ = _; rw [HD.out, hs]; rfl
    refine (encMsg_no r _ H0.out HN.out).mono ?_
    rintro e w1 ⟨rfl, hb1⟩
    have E1 := Lib.hid (E0.out.trans hb1)
    have HY1 := Lib.hid (HY0.out.below hb1)
    have H1' := Lib.hid (H0'.out.below hb1)
    clear hb1 HX0 HY0 E0 H0 H0' hs
    go_wp2_with (first | refine wpList_ldM _ _ _ rfl rfl rfl rfl HY1.out ?_ | (refine wpList_ung (by rfl) ?_; refine wpList_ldM _ _ _ rfl rfl rfl rfl HY1.out ?_))
    cases hs' : sndMg r'.m
    · have HN' := Lib.hid hs'
      clear hs'
      refine (encMsg_no r' _ H1'.out HN'.out).mono ?_
      rintro e w2 ⟨rfl, hb2⟩
      have E2 := Lib.hid (E1.out.trans hb2)
      clear hb2
      go_wp2
      go_ret
      exact ⟨ret_boolean HF.out, E2.out⟩
    · have HN' := Lib.hid hs'
      clear hs'
      refine (encMsg_yes r' _ H1'.out HN'.out).mono ?_
      rintro e w2 ⟨g2, c2, rfl, _, hb2⟩
      have E2 := Lib.hid (E1.out.trans hb2)
      clear hb2
      generalize (encMg r'.m).length = q2 at *
      go_wp2
      go_ret
      exact ⟨ret_boolean HF.out, E2.out⟩
  · have HN := Lib.hid hs
    clear hs
    refine (encMsg_yes r _ H0.out HN.out).mono ?_
    rintro e w1 ⟨g1, c1, rfl, ho1, hb1⟩
    have E1 := Lib.hid (E0.out.trans hb1)
    have HY1 := Lib.hid (HY0.out.below hb1)
    have H1' := Lib.hid (H0'.out.below hb1)
    have HS1 := Lib.hid ho1.seenAt
    clear hb1 HX0 HY0 E0 H0 H0' ho1
    obtain ⟨q1, hq1⟩ : ∃ q, (encMg r.m).length = q := ⟨_, rfl⟩
    have HQ1 := Lib.hid hq1
    rw [hq1]
    clear hq1
    go_wp2_with (first | refine wpList_ldM _ _ _ rfl rfl rfl rfl HY1.out ?_ | (refine wpList_ung (by rfl) ?_; refine wpList_ldM _ _ _ rfl rfl rfl rfl HY1.out ?_))
    cases hs' : sndMg r'.m
    · have HN' := Lib.hid hs'
      have HF : Hid (false = smB r.m r'.m) := by show _ = _; rw [HD.out, hs', HN.out]; rfl
      clear hs'
      refine (encMsg_no r' _ H1'.out HN'.out).mono ?_
      rintro e w2 ⟨rfl, hb2⟩
      have E2 := Lib.hid (E1.out.trans hb2)
      clear hb2
      go_wp2
      go_ret
      exact ⟨ret_boolean HF.out, E2.out⟩
    · have HN' := Lib.hid hs'
      have HF : Hid (decide (encMg r.m = encMg r'.m) = smB r.m r'.m) := by show _ = _; rw [HD.out, hs', HN.out, Bool.true_and, Bool.true_and]
      clear hs'
      refine (encMsg_yes r' _ H1'.out HN'.out).mono ?_
      rintro e w2 ⟨g2, c2, rfl, ho2, hb2⟩
      have E2 := Lib.hid (E1.out.trans hb2)
      have HS12 := Lib.hid (HS1.out.below hb2)
      have HS2 := Lib.hid ho2.seenAt
      clear hb2 ho2
      obtain ⟨q2, hq2⟩ : ∃ q, (encMg r'.m).length = q := ⟨_, rfl⟩
      have HQ2 := Lib.hid hq2
      rw [hq2]
      clear hq2
      go_wp2_with fail
      refine (equal_any _ _ _ _ _ _ (encMg r.m) (encMg r'.m) _ HQ1.out HQ2.out HS12.out HS2.out).mono ?_
      rintro e w' ⟨rfl, rfl⟩
      rw [HF.out]
      go_wp2
      go_ret
      exact ⟨rfl, E2.out⟩

/-- Some truth value. -/
def RetBl (w : World) (e : Ending) (w' : World) : Prop := ∃ b : Bool, e = .returned (.bool b) ∧ Below w.heap.size w w'

set_option maxRecDepth 100000 in
set_option maxHeartbeats 4000000 in
theorem light_any (r : Rm) (w : World) : Calls Try.prog 11 #[.agg r.cells] w (RetBl w) := by
  show Calls Try.prog 11 #[.agg #[.int .i64 r.m.kind, .int .i64 r.m.frm, .int .i64 r.m.to, .int .i64 r.m.epoch, .int .i64 r.m.ent.seq, .int .i64 r.m.ent.client, .int .i64 r.m.ent.num, .int .i64 r.m.ent.op, .string (strB r.m.ent.key), .int .i64 r.m.ent.size, .int .u32 (r.m.ent.sum : Int), .slice r.loc r.el r.c, .int .i64 r.m.e, .slice r.fa r.fl r.fc, .slice r.ka r.kl r.kc, .int .i64 r.m.cep, .slice r.ma r.ml r.mc, .slice r.sa r.sl r.sc, .slice r.na r.nl r.nc]] w _
  have HB0 : Hid (Below w.heap.size w (w.alloc (.cells #[.int .i64 r.m.kind, .int .i64 r.m.frm, .int .i64 r.m.to, .int .i64 r.m.epoch, .int .i64 r.m.ent.seq, .int .i64 r.m.ent.client, .int .i64 r.m.ent.num, .int .i64 r.m.ent.op, .string (strB r.m.ent.key), .int .i64 r.m.ent.size, .int .u32 (r.m.ent.sum : Int), .slice r.loc r.el r.c, .int .i64 r.m.e, .slice r.fa r.fl r.fc, .slice r.ka r.kl r.kc, .int .i64 r.m.cep, .slice r.ma r.ml r.mc, .slice r.sa r.sl r.sc, .slice r.na r.nl r.nc] 35))) := below_one w _
  have HX0 : Hid (Box (w.alloc (.cells #[.int .i64 r.m.kind, .int .i64 r.m.frm, .int .i64 r.m.to, .int .i64 r.m.epoch, .int .i64 r.m.ent.seq, .int .i64 r.m.ent.client, .int .i64 r.m.ent.num, .int .i64 r.m.ent.op, .string (strB r.m.ent.key), .int .i64 r.m.ent.size, .int .u32 (r.m.ent.sum : Int), .slice r.loc r.el r.c, .int .i64 r.m.e, .slice r.fa r.fl r.fc, .slice r.ka r.kl r.kc, .int .i64 r.m.cep, .slice r.ma r.ml r.mc, .slice r.sa r.sl r.sc, .slice r.na r.nl r.nc] 35)) w.heap.size #[.int .i64 r.m.kind, .int .i64 r.m.frm, .int .i64 r.m.to, .int .i64 r.m.epoch, .int .i64 r.m.ent.seq, .int .i64 r.m.ent.client, .int .i64 r.m.ent.num, .int .i64 r.m.ent.op, .string (strB r.m.ent.key), .int .i64 r.m.ent.size, .int .u32 (r.m.ent.sum : Int), .slice r.loc r.el r.c, .int .i64 r.m.e, .slice r.fa r.fl r.fc, .slice r.ka r.kl r.kc, .int .i64 r.m.cep, .slice r.ma r.ml r.mc, .slice r.sa r.sl r.sc, .slice r.na r.nl r.nc]) := box_new w _ _ _ rfl
  obtain ⟨x0, x1, x2, x3, x4, x5, x6, x7, x8, x9, x10, x11, x12, x13, x14, x15, x16, x17, x18⟩ := box19 HX0.out
  by_cases h0 : (r.nl : Int) ≤ 40
  · have d0 : decide ((r.nl : Int) ≤ 40) = true := by simp; exact h0
    by_cases h1 : (r.kl : Int) ≤ 40
    · have d1 : decide ((r.kl : Int) ≤ 40) = true := by simp; exact h1
      by_cases h2 : (r.fl : Int) ≤ 40
      · have d2 : decide ((r.fl : Int) ≤ 40) = true := by simp; exact h2
        by_cases h3 : (r.sl : Int) ≤ 40
        · have d3 : decide ((r.sl : Int) ≤ 40) = true := by simp; exact h3
          by_cases h4 : (r.ml : Int) ≤ 40
          · have d4 : decide ((r.ml : Int) ≤ 40) = true := by simp; exact h4
            go_enter Try.func11, Try.ntmps11
            go_wp2
            go_ret
            exact ⟨_, rfl, HB0.out⟩
          · have d4 : decide ((r.ml : Int) ≤ 40) = false := by simp; omega
            go_enter Try.func11, Try.ntmps11
            go_wp2
            go_ret
            exact ⟨_, rfl, HB0.out⟩
        · have d3 : decide ((r.sl : Int) ≤ 40) = false := by simp; omega
          go_enter Try.func11, Try.ntmps11
          go_wp2
          go_ret
          exact ⟨_, rfl, HB0.out⟩
      · have d2 : decide ((r.fl : Int) ≤ 40) = false := by simp; omega
        go_enter Try.func11, Try.ntmps11
        go_wp2
        go_ret
        exact ⟨_, rfl, HB0.out⟩
    · have d1 : decide ((r.kl : Int) ≤ 40) = false := by simp; omega
      go_enter Try.func11, Try.ntmps11
      go_wp2
      go_ret
      exact ⟨_, rfl, HB0.out⟩
  · have d0 : decide ((r.nl : Int) ≤ 40) = false := by simp; omega
    go_enter Try.func11, Try.ntmps11
    go_wp2
    go_ret
    exact ⟨_, rfl, HB0.out⟩

end Go.Proofs.Ytggjpjpemgpeeaa
