/-
  SameMsg; the program's Same; the law's light.
-/
import Derived.Test.YtggjpjpemgpeeaaGreatWalksH3
import Derived.Test.YtggjpjpemgpeeaaGreatWalksH6
import Derived.Test.YtggjpjpemgpeeaaGreatWalksI0
namespace Go.Proofs.YtggjpjpemgpeeaaGreat
open Go.RowKit


theorem exec_ldM {ev : Operand → Value} {o : Oper} {w : World} (s : Operand) (B : Nat) (C : Array Value) (ho : o.op = .load 40 s) (hs : ev s = .pointer (some ⟨B, 0, none⟩)) (hn : C.size = 19) (hb : Box w B C) : (execOp ev o).run Tryz.prog w = .ok (.value (.agg C)) w := by
  have hrun := run_ldM B C hn hb
  simp [execOp, ho, hs, hrun, Result.andThen]


set_option maxRecDepth 100000 in
set_option maxHeartbeats 2000000 in
theorem sameMsg_any (r r' : Rm) (w : World) (h : MsgAt w r) (hs : SndMg r.m) (h' : MsgAt w r') (hs' : SndMg r'.m) :
    Calls Tryz.prog 10 #[.agg r.cells, .agg r'.cells] w fun e w' => e = .returned (.bool (decide (encMg r.m = encMg r'.m))) ∧ Below w.heap.size w w' := by
  show Calls Tryz.prog 10 #[.agg #[.int .i64 r.m.kind, .int .i64 r.m.frm, .int .i64 r.m.to, .int .i64 r.m.epoch, .int .i64 r.m.ent.seq, .int .i64 r.m.ent.client, .int .i64 r.m.ent.num, .int .i64 r.m.ent.op, .string (strB r.m.ent.key), .int .i64 r.m.ent.size, .int .u32 (r.m.ent.sum : Int), .slice r.loc r.el r.c, .int .i64 r.m.e, .slice r.fa r.fl r.fc, .slice r.ka r.kl r.kc, .int .i64 r.m.cep, .slice r.ma r.ml r.mc, .slice r.sa r.sl r.sc, .slice r.na r.nl r.nc], .agg #[.int .i64 r'.m.kind, .int .i64 r'.m.frm, .int .i64 r'.m.to, .int .i64 r'.m.epoch, .int .i64 r'.m.ent.seq, .int .i64 r'.m.ent.client, .int .i64 r'.m.ent.num, .int .i64 r'.m.ent.op, .string (strB r'.m.ent.key), .int .i64 r'.m.ent.size, .int .u32 (r'.m.ent.sum : Int), .slice r'.loc r'.el r'.c, .int .i64 r'.m.e, .slice r'.fa r'.fl r'.fc, .slice r'.ka r'.kl r'.kc, .int .i64 r'.m.cep, .slice r'.ma r'.ml r'.mc, .slice r'.sa r'.sl r'.sc, .slice r'.na r'.nl r'.nc]] w _
  have HX0 : Hid (Box ((w.alloc (.cells #[.int .i64 r.m.kind, .int .i64 r.m.frm, .int .i64 r.m.to, .int .i64 r.m.epoch, .int .i64 r.m.ent.seq, .int .i64 r.m.ent.client, .int .i64 r.m.ent.num, .int .i64 r.m.ent.op, .string (strB r.m.ent.key), .int .i64 r.m.ent.size, .int .u32 (r.m.ent.sum : Int), .slice r.loc r.el r.c, .int .i64 r.m.e, .slice r.fa r.fl r.fc, .slice r.ka r.kl r.kc, .int .i64 r.m.cep, .slice r.ma r.ml r.mc, .slice r.sa r.sl r.sc, .slice r.na r.nl r.nc] 40)).alloc (.cells #[.int .i64 r'.m.kind, .int .i64 r'.m.frm, .int .i64 r'.m.to, .int .i64 r'.m.epoch, .int .i64 r'.m.ent.seq, .int .i64 r'.m.ent.client, .int .i64 r'.m.ent.num, .int .i64 r'.m.ent.op, .string (strB r'.m.ent.key), .int .i64 r'.m.ent.size, .int .u32 (r'.m.ent.sum : Int), .slice r'.loc r'.el r'.c, .int .i64 r'.m.e, .slice r'.fa r'.fl r'.fc, .slice r'.ka r'.kl r'.kc, .int .i64 r'.m.cep, .slice r'.ma r'.ml r'.mc, .slice r'.sa r'.sl r'.sc, .slice r'.na r'.nl r'.nc] 40)) w.heap.size r.cells) := (box_new w r.cells 40 _ rfl).below (below_one _ _)
  have HY0 : Hid (Box ((w.alloc (.cells #[.int .i64 r.m.kind, .int .i64 r.m.frm, .int .i64 r.m.to, .int .i64 r.m.epoch, .int .i64 r.m.ent.seq, .int .i64 r.m.ent.client, .int .i64 r.m.ent.num, .int .i64 r.m.ent.op, .string (strB r.m.ent.key), .int .i64 r.m.ent.size, .int .u32 (r.m.ent.sum : Int), .slice r.loc r.el r.c, .int .i64 r.m.e, .slice r.fa r.fl r.fc, .slice r.ka r.kl r.kc, .int .i64 r.m.cep, .slice r.ma r.ml r.mc, .slice r.sa r.sl r.sc, .slice r.na r.nl r.nc] 40)).alloc (.cells #[.int .i64 r'.m.kind, .int .i64 r'.m.frm, .int .i64 r'.m.to, .int .i64 r'.m.epoch, .int .i64 r'.m.ent.seq, .int .i64 r'.m.ent.client, .int .i64 r'.m.ent.num, .int .i64 r'.m.ent.op, .string (strB r'.m.ent.key), .int .i64 r'.m.ent.size, .int .u32 (r'.m.ent.sum : Int), .slice r'.loc r'.el r'.c, .int .i64 r'.m.e, .slice r'.fa r'.fl r'.fc, .slice r'.ka r'.kl r'.kc, .int .i64 r'.m.cep, .slice r'.ma r'.ml r'.mc, .slice r'.sa r'.sl r'.sc, .slice r'.na r'.nl r'.nc] 40)) (w.heap.size + 1) r'.cells) := box_new (w.alloc (.cells #[.int .i64 r.m.kind, .int .i64 r.m.frm, .int .i64 r.m.to, .int .i64 r.m.epoch, .int .i64 r.m.ent.seq, .int .i64 r.m.ent.client, .int .i64 r.m.ent.num, .int .i64 r.m.ent.op, .string (strB r.m.ent.key), .int .i64 r.m.ent.size, .int .u32 (r.m.ent.sum : Int), .slice r.loc r.el r.c, .int .i64 r.m.e, .slice r.fa r.fl r.fc, .slice r.ka r.kl r.kc, .int .i64 r.m.cep, .slice r.ma r.ml r.mc, .slice r.sa r.sl r.sc, .slice r.na r.nl r.nc] 40)) r'.cells 40 _ (by simp)
  have E0 : Hid (Ext w ((w.alloc (.cells #[.int .i64 r.m.kind, .int .i64 r.m.frm, .int .i64 r.m.to, .int .i64 r.m.epoch, .int .i64 r.m.ent.seq, .int .i64 r.m.ent.client, .int .i64 r.m.ent.num, .int .i64 r.m.ent.op, .string (strB r.m.ent.key), .int .i64 r.m.ent.size, .int .u32 (r.m.ent.sum : Int), .slice r.loc r.el r.c, .int .i64 r.m.e, .slice r.fa r.fl r.fc, .slice r.ka r.kl r.kc, .int .i64 r.m.cep, .slice r.ma r.ml r.mc, .slice r.sa r.sl r.sc, .slice r.na r.nl r.nc] 40)).alloc (.cells #[.int .i64 r'.m.kind, .int .i64 r'.m.frm, .int .i64 r'.m.to, .int .i64 r'.m.epoch, .int .i64 r'.m.ent.seq, .int .i64 r'.m.ent.client, .int .i64 r'.m.ent.num, .int .i64 r'.m.ent.op, .string (strB r'.m.ent.key), .int .i64 r'.m.ent.size, .int .u32 (r'.m.ent.sum : Int), .slice r'.loc r'.el r'.c, .int .i64 r'.m.e, .slice r'.fa r'.fl r'.fc, .slice r'.ka r'.kl r'.kc, .int .i64 r'.m.cep, .slice r'.ma r'.ml r'.mc, .slice r'.sa r'.sl r'.sc, .slice r'.na r'.nl r'.nc] 40))) := (below_one w _).alloc (by simp) _
  have H := Lib.hid h
  have H' := Lib.hid h'
  have HS := Lib.hid hs
  have HS' := Lib.hid hs'
  have HF : Hid (((strB (encMg r.m)).toList == (strB (encMg r'.m)).toList) = decide (encMg r.m = encMg r'.m)) := strB_beq (encMg_bytes h.wf hs) (encMg_bytes h'.wf hs')
  clear h h' hs hs'
  obtain ⟨ans, hans⟩ : ∃ q, decide (encMg r.m = encMg r'.m) = q := ⟨_, rfl⟩
  rw [hans] at HF
  have HANS := Lib.hid hans
  clear hans
  obtain ⟨q, hq⟩ : ∃ q, (encMg r.m).length = q := ⟨_, rfl⟩
  obtain ⟨q', hq'⟩ : ∃ q, (encMg r'.m).length = q := ⟨_, rfl⟩
  have Q := Lib.hid hq
  have Q' := Lib.hid hq'
  clear hq hq'
  have ST := Lib.hid (fun (w' : World) x c (h : SeenAt w' x c (encMg r.m)) => str_at h Q.out)
  have ST' := Lib.hid (fun (w' : World) x c (h : SeenAt w' x c (encMg r'.m)) => str_at h Q'.out)
  generalize strB (encMg r.m) = sr at *
  generalize strB (encMg r'.m) = sr' at *
  go_enter Tryz.func10, Tryz.ntmps10
  go_wp2_with fail
  refine wp_region_ext (by kernel_rfl) ?_
  have HX1 := Lib.hid (HX0.out.below (Below.refl _ _).drew)
  have HY1 := Lib.hid (HY0.out.below (Below.refl _ _).drew)
  have E1 := Lib.hid (E0.out.trans (Below.refl _ _).drew)
  generalize ((w.alloc (.cells #[.int .i64 r.m.kind, .int .i64 r.m.frm, .int .i64 r.m.to, .int .i64 r.m.epoch, .int .i64 r.m.ent.seq, .int .i64 r.m.ent.client, .int .i64 r.m.ent.num, .int .i64 r.m.ent.op, .string (strB r.m.ent.key), .int .i64 r.m.ent.size, .int .u32 (r.m.ent.sum : Int), .slice r.loc r.el r.c, .int .i64 r.m.e, .slice r.fa r.fl r.fc, .slice r.ka r.kl r.kc, .int .i64 r.m.cep, .slice r.ma r.ml r.mc, .slice r.sa r.sl r.sc, .slice r.na r.nl r.nc] 40)).alloc (.cells #[.int .i64 r'.m.kind, .int .i64 r'.m.frm, .int .i64 r'.m.to, .int .i64 r'.m.epoch, .int .i64 r'.m.ent.seq, .int .i64 r'.m.ent.client, .int .i64 r'.m.ent.num, .int .i64 r'.m.ent.op, .string (strB r'.m.ent.key), .int .i64 r'.m.ent.size, .int .u32 (r'.m.ent.sum : Int), .slice r'.loc r'.el r'.c, .int .i64 r'.m.e, .slice r'.fa r'.fl r'.fc, .slice r'.ka r'.kl r'.kc, .int .i64 r'.m.cep, .slice r'.ma r'.ml r'.mc, .slice r'.sa r'.sl r'.sc, .slice r'.na r'.nl r'.nc] 40)).drew = w0 at *
  clear HX0 HY0 E0
  refine wpAnyH_tk (i := 0) 5 (v := .agg r.cells) rfl rfl (by kernel_rfl) (by kernel_rfl) (by kernel_rfl) (by rfl) (fun wq hwq => exec_ldM _ _ _ rfl rfl rfl ((HX1.out).below hwq)) ?_
  simp only [List.setIfInBounds_toArray, List.set_cons_zero, List.set_cons_succ]
  refine wpAnyH_tk (i := 3) 8 (v := .agg r'.cells) rfl rfl (by kernel_rfl) (by kernel_rfl) (by kernel_rfl) (by rfl) (fun wq hwq => exec_ldM _ _ _ rfl rfl rfl ((HY1.out).below hwq)) ?_
  simp only [List.setIfInBounds_toArray, List.set_cons_zero, List.set_cons_succ]
  refine wpAnyH_one (i := 1) rfl (by kernel_rfl) (by rfl) (fun K hK => ?_)
  go_simp
  refine (message_own r _ (H.out.below E1.out) HS.out).mono ?_
  rintro e w1 ⟨g1, c1, rfl, ho1, hb1⟩
  have E2 := Lib.hid (E1.out.trans hb1)
  have X1 := Lib.hid ho1.seenAt
  rw [Q.out]
  refine hK.out _ _ hb1 ?_
  clear hK K
  refine wpAnyH_tk (i := 2) 7 (v := ?_) rfl rfl (by kernel_rfl) (by kernel_rfl) (by kernel_rfl) (by rfl) (fun wq hwq => ?_) ?_
  rotate_left
  · (have hx := ST.out wq _ _ (X1.out.below hwq); go_simp <;> with_reducible rfl)
  simp only [List.setIfInBounds_toArray, List.set_cons_zero, List.set_cons_succ]
  refine wpAnyH_one (i := 4) rfl (by kernel_rfl) (by rfl) (fun K hK => ?_)
  go_simp
  refine (message_own r' _ (H'.out.below E2.out) HS'.out).mono ?_
  rintro e w2 ⟨g2, c2, rfl, ho2, hb2⟩
  have E3 := Lib.hid (E2.out.trans hb2)
  have X2 := Lib.hid ho2.seenAt
  rw [Q'.out]
  refine hK.out _ _ hb2 ?_
  clear hK K
  refine wpAnyH_tk (i := 5) 10 (v := ?_) rfl rfl (by kernel_rfl) (by kernel_rfl) (by kernel_rfl) (by rfl) (fun wq hwq => ?_) ?_
  rotate_left
  · (have hx := ST'.out wq _ _ (X2.out.below hwq); go_simp <;> with_reducible rfl)
  simp only [List.setIfInBounds_toArray, List.set_cons_zero, List.set_cons_succ]
  refine wpAnyH_tk (i := 6) 11 (v := ?_) rfl rfl (by kernel_rfl) (by kernel_rfl) (by kernel_rfl) (by rfl) (fun wq hwq => ?_) ?_
  rotate_left
  · (have hx := HF.out; go_simp <;> with_reducible rfl)
  simp only [List.setIfInBounds_toArray, List.set_cons_zero, List.set_cons_succ]
  refine wpAnyH_tk (i := 7) 4 (v := ?_) rfl rfl (by kernel_rfl) (by kernel_rfl) (by kernel_rfl) (by rfl) (fun wq hwq => ?_) ?_
  rotate_left
  · (go_simp <;> with_reducible rfl)
  simp only [List.setIfInBounds_toArray, List.set_cons_zero, List.set_cons_succ]
  refine wpAnyH_done (by kernel_rfl) ?_ _
  refine NoPanic.normal ?_
  go_wp2
  go_ret
  exact ⟨ret_boolean HANS.out.symm, E3.out⟩

theorem sameMsg_self (r r' : Rm) (w : World) (h : MsgAt w r) (h' : MsgAt w r') (e : r.m = r'.m) (hs : SndMg r.m) :
    Calls Tryz.prog 10 #[.agg r.cells, .agg r'.cells] w fun e w' => e = .returned (.bool true) ∧ Below w.heap.size w w' :=
  (sameMsg_any r r' w h hs h' (e ▸ hs)).mono fun x w' hx => by
    rw [show decide (encMg r.m = encMg r'.m) = true by rw [e]; simp] at hx
    exact hx

/-- Same's answer. -/
def smB (a b : Pm) : Bool := sndMg a && sndMg b && decide (encMg a = encMg b)

/-- Some truth value. -/
def RetBl (w : World) (e : Ending) (w' : World) : Prop := ∃ b : Bool, e = .returned (.bool b) ∧ Below w.heap.size w w'

end Go.Proofs.YtggjpjpemgpeeaaGreat
