/-
  net: Deliver, Cut, Heal.
-/
import Derived.Test.YtggjpjpemgpeeaaNtX
import Derived.Test.YtggjpjpemgpeeaaQTail
import Derived.Test.YtggjpjpemgpeeaaExt2
namespace Go.Proofs.Ytggjpjpemgpeeaa
open Go.RowKit



/-- A struct is stored into a block of the call's own, inside a region. -/
theorem wp_stS {o : Oper} {a : Act} {K : Act → World → Prop} {Q : Exit → Act → World → Prop} {w : World} (t : TypeId) (n B off : Nat) (t' : TypeId) (C D D' : Array Value) (x y : Operand) (ho : o.op = .store t x y) (hd : o.dst = none)
    (hx : a.eval x = .pointer (some ⟨B, off, none⟩)) (hy : a.eval y = .agg C) (hs : (sizeOf t).run Try.prog w = .ok n w) (hn : C.size = n) (hb : Bx w B t' D) (hf : off + n ≤ D.size) (h1 : ∀ v ∈ C.toList, v.oneCell' = true)
    (hD : (D.toList.take off ++ C.toList ++ D.toList.drop (off + n)).toArray = D')
    (h : ∀ w', Bx w' B t' D' → Chg [B] w w' → K a w') : Oper.wp Try.prog o a w K Q := by
  have hrun := run_st t n B off t' C D D' hs hn hb hf h1 hD
  unfold Oper.wp
  simp [execOp, ho, hx, hy, hrun, Result.andThen]
  show K (a.put o.dst undef) _
  rw [hd]
  exact h _ (setRow_heap w B D D' t' (0, 0) hb) (chg_row w B D')

set_option maxRecDepth 100000 in
set_option maxHeartbeats 1000000 in
theorem dlv_nil (i : Int) (w : World) : Calls Try.prog 26 #[.pointer none, .int .i64 i] w (RetNoM w (.int .i64 4)) := by
  have HB0 : Hid (Below w.heap.size w (w.alloc (.cells #[.int .i64 0, .int .i64 0, .int .i64 0, .int .i64 0, .int .i64 0, .int .i64 0, .int .i64 0, .int .i64 0, .string ⟨#[]⟩, .int .i64 0, .int .u32 0, .slice none 0 0, .int .i64 0, .slice none 0 0, .slice none 0 0, .int .i64 0, .slice none 0 0, .slice none 0 0, .slice none 0 0] 35))) := below_one w _
  have HZ0 := Lib.hid (bx_new w #[.int .i64 0, .int .i64 0, .int .i64 0, .int .i64 0, .int .i64 0, .int .i64 0, .int .i64 0, .int .i64 0, .string ⟨#[]⟩, .int .i64 0, .int .u32 0, .slice none 0 0, .int .i64 0, .slice none 0 0, .slice none 0 0, .int .i64 0, .slice none 0 0, .slice none 0 0, .slice none 0 0] 35)
  go_enter Try.func26, Try.ntmps26
  go_wp2_with fail
  generalize (w.alloc (.cells #[.int .i64 0, .int .i64 0, .int .i64 0, .int .i64 0, .int .i64 0, .int .i64 0, .int .i64 0, .int .i64 0, .string ⟨#[]⟩, .int .i64 0, .int .u32 0, .slice none 0 0, .int .i64 0, .slice none 0 0, .slice none 0 0, .int .i64 0, .slice none 0 0, .slice none 0 0, .slice none 0 0] 35)) = w0 at *
  refine (look_nil i _).mono ?_
  rintro e w1 ⟨rfl, hb⟩
  have HZ1 := Lib.hid (HZ0.out.chg (gs := []) (Chg.of_below hb) (by simp))
  have HB1 := Lib.hid (HB0.out.trans (hb.mono HB0.out.size))
  clear hb HZ0 HB0
  go_wp2_with (first | (refine wpList_st 35 19 (w1.heap.size) 0 35 #[.int .i64 0, .int .i64 0, .int .i64 0, .int .i64 0, .int .i64 0, .int .i64 0, .int .i64 0, .int .i64 0, .string ⟨#[]⟩, .int .i64 0, .int .u32 0, .slice none 0 0, .int .i64 0, .slice none 0 0, .slice none 0 0, .int .i64 0, .slice none 0 0, .slice none 0 0, .slice none 0 0] #[.int .i64 0, .int .i64 0, .int .i64 0, .int .i64 0, .int .i64 0, .int .i64 0, .int .i64 0, .int .i64 0, .string ⟨#[]⟩, .int .i64 0, .int .u32 0, .slice none 0 0, .int .i64 0, .slice none 0 0, .slice none 0 0, .int .i64 0, .slice none 0 0, .slice none 0 0, .slice none 0 0] #[.int .i64 0, .int .i64 0, .int .i64 0, .int .i64 0, .int .i64 0, .int .i64 0, .int .i64 0, .int .i64 0, .string ⟨#[]⟩, .int .i64 0, .int .u32 0, .slice none 0 0, .int .i64 0, .slice none 0 0, .slice none 0 0, .int .i64 0, .slice none 0 0, .slice none 0 0, .slice none 0 0] _ _ rfl rfl rfl rfl rfl (by kernel_rfl) rfl (bx_new w1 #[.int .i64 0, .int .i64 0, .int .i64 0, .int .i64 0, .int .i64 0, .int .i64 0, .int .i64 0, .int .i64 0, .string ⟨#[]⟩, .int .i64 0, .int .u32 0, .slice none 0 0, .int .i64 0, .slice none 0 0, .slice none 0 0, .int .i64 0, .slice none 0 0, .slice none 0 0, .slice none 0 0] 35) (by simp) zero_ones rfl ?_; intro w2 hx2 hc2; have hb2 : Below w1.heap.size w1 w2 := hc2.below (below_one w1 _) (by simp) (by simp); have HZ2 := Lib.hid (HZ1.out.chg (gs := []) (Chg.of_below hb2) (by simp)); have HB2 := Lib.hid (HB1.out.trans (hb2.mono HB1.out.size)); clear hx2 hc2 hb2 HZ1 HB1) | (refine wpList_st 35 19 (w.heap.size) 0 35 #[.int .i64 0, .int .i64 0, .int .i64 0, .int .i64 0, .int .i64 0, .int .i64 0, .int .i64 0, .int .i64 0, .string ⟨#[]⟩, .int .i64 0, .int .u32 0, .slice none 0 0, .int .i64 0, .slice none 0 0, .slice none 0 0, .int .i64 0, .slice none 0 0, .slice none 0 0, .slice none 0 0] #[.int .i64 0, .int .i64 0, .int .i64 0, .int .i64 0, .int .i64 0, .int .i64 0, .int .i64 0, .int .i64 0, .string ⟨#[]⟩, .int .i64 0, .int .u32 0, .slice none 0 0, .int .i64 0, .slice none 0 0, .slice none 0 0, .int .i64 0, .slice none 0 0, .slice none 0 0, .slice none 0 0] #[.int .i64 0, .int .i64 0, .int .i64 0, .int .i64 0, .int .i64 0, .int .i64 0, .int .i64 0, .int .i64 0, .string ⟨#[]⟩, .int .i64 0, .int .u32 0, .slice none 0 0, .int .i64 0, .slice none 0 0, .slice none 0 0, .int .i64 0, .slice none 0 0, .slice none 0 0, .slice none 0 0] _ _ rfl rfl rfl rfl rfl (by kernel_rfl) rfl HZ2.out (by simp) zero_ones rfl ?_; intro wf hx hc))
  have HF : Hid (RetNoM w (.int .i64 4) (.returned (.tuple #[.agg #[.int .i64 0, .int .i64 0, .int .i64 0, .int .i64 0, .int .i64 0, .int .i64 0, .int .i64 0, .int .i64 0, .string ⟨#[]⟩, .int .i64 0, .int .u32 0, .slice none 0 0, .int .i64 0, .slice none 0 0, .slice none 0 0, .int .i64 0, .slice none 0 0, .slice none 0 0, .slice none 0 0], .int .i64 4])) wf) := ⟨rfl, hc.below HB2.out HB2.out.size (by simp)⟩
  have hld := run_ldvM w.heap.size _ rfl hx.box
  refine bodyPost_ret (v := .tuple #[.agg #[.int .i64 0, .int .i64 0, .int .i64 0, .int .i64 0, .int .i64 0, .int .i64 0, .int .i64 0, .int .i64 0, .string ⟨#[]⟩, .int .i64 0, .int .u32 0, .slice none 0 0, .int .i64 0, .slice none 0 0, .slice none 0 0, .int .i64 0, .slice none 0 0, .slice none 0 0, .slice none 0 0], .int .i64 4]) (results_cell2 Try.results26 rfl rfl hld) rfl ?_
  exact HF.out

set_option maxRecDepth 100000 in
set_option maxHeartbeats 1000000 in
theorem dlv_no {w : World} {base R : Nat} {N : List Nat} {ks : List (Int × Int)} (h : Nt w base R N [] ks) (i : Int) : Calls Try.prog 26 #[.pointer (some ⟨R, 0, none⟩), .int .i64 i] w (RetNoM w (.int .i64 4)) := by
  have HB0 : Hid (Below w.heap.size w (w.alloc (.cells #[.int .i64 0, .int .i64 0, .int .i64 0, .int .i64 0, .int .i64 0, .int .i64 0, .int .i64 0, .int .i64 0, .string ⟨#[]⟩, .int .i64 0, .int .u32 0, .slice none 0 0, .int .i64 0, .slice none 0 0, .slice none 0 0, .int .i64 0, .slice none 0 0, .slice none 0 0, .slice none 0 0] 35))) := below_one w _
  have HZ0 := Lib.hid (bx_new w #[.int .i64 0, .int .i64 0, .int .i64 0, .int .i64 0, .int .i64 0, .int .i64 0, .int .i64 0, .int .i64 0, .string ⟨#[]⟩, .int .i64 0, .int .u32 0, .slice none 0 0, .int .i64 0, .slice none 0 0, .slice none 0 0, .int .i64 0, .slice none 0 0, .slice none 0 0, .slice none 0 0] 35)
  have HA0 := Lib.hid (h.below HB0.out)
  clear h
  go_enter Try.func26, Try.ntmps26
  go_wp2_with fail
  generalize (w.alloc (.cells #[.int .i64 0, .int .i64 0, .int .i64 0, .int .i64 0, .int .i64 0, .int .i64 0, .int .i64 0, .int .i64 0, .string ⟨#[]⟩, .int .i64 0, .int .u32 0, .slice none 0 0, .int .i64 0, .slice none 0 0, .slice none 0 0, .int .i64 0, .slice none 0 0, .slice none 0 0, .slice none 0 0] 35)) = w0 at *
  refine (look_no HA0.out i).mono ?_
  rintro e w1 ⟨rfl, hb⟩
  have HZ1 := Lib.hid (HZ0.out.chg (gs := []) (Chg.of_below hb) (by simp))
  have HB1 := Lib.hid (HB0.out.trans (hb.mono HB0.out.size))
  clear hb HZ0 HB0
  go_wp2_with (first | (refine wpList_st 35 19 (w1.heap.size) 0 35 #[.int .i64 0, .int .i64 0, .int .i64 0, .int .i64 0, .int .i64 0, .int .i64 0, .int .i64 0, .int .i64 0, .string ⟨#[]⟩, .int .i64 0, .int .u32 0, .slice none 0 0, .int .i64 0, .slice none 0 0, .slice none 0 0, .int .i64 0, .slice none 0 0, .slice none 0 0, .slice none 0 0] #[.int .i64 0, .int .i64 0, .int .i64 0, .int .i64 0, .int .i64 0, .int .i64 0, .int .i64 0, .int .i64 0, .string ⟨#[]⟩, .int .i64 0, .int .u32 0, .slice none 0 0, .int .i64 0, .slice none 0 0, .slice none 0 0, .int .i64 0, .slice none 0 0, .slice none 0 0, .slice none 0 0] #[.int .i64 0, .int .i64 0, .int .i64 0, .int .i64 0, .int .i64 0, .int .i64 0, .int .i64 0, .int .i64 0, .string ⟨#[]⟩, .int .i64 0, .int .u32 0, .slice none 0 0, .int .i64 0, .slice none 0 0, .slice none 0 0, .int .i64 0, .slice none 0 0, .slice none 0 0, .slice none 0 0] _ _ rfl rfl rfl rfl rfl (by kernel_rfl) rfl (bx_new w1 #[.int .i64 0, .int .i64 0, .int .i64 0, .int .i64 0, .int .i64 0, .int .i64 0, .int .i64 0, .int .i64 0, .string ⟨#[]⟩, .int .i64 0, .int .u32 0, .slice none 0 0, .int .i64 0, .slice none 0 0, .slice none 0 0, .int .i64 0, .slice none 0 0, .slice none 0 0, .slice none 0 0] 35) (by simp) zero_ones rfl ?_; intro w2 hx2 hc2; have hb2 : Below w1.heap.size w1 w2 := hc2.below (below_one w1 _) (by simp) (by simp); have HZ2 := Lib.hid (HZ1.out.chg (gs := []) (Chg.of_below hb2) (by simp)); have HB2 := Lib.hid (HB1.out.trans (hb2.mono HB1.out.size)); clear hx2 hc2 hb2 HZ1 HB1) | (refine wpList_st 35 19 (w.heap.size) 0 35 #[.int .i64 0, .int .i64 0, .int .i64 0, .int .i64 0, .int .i64 0, .int .i64 0, .int .i64 0, .int .i64 0, .string ⟨#[]⟩, .int .i64 0, .int .u32 0, .slice none 0 0, .int .i64 0, .slice none 0 0, .slice none 0 0, .int .i64 0, .slice none 0 0, .slice none 0 0, .slice none 0 0] #[.int .i64 0, .int .i64 0, .int .i64 0, .int .i64 0, .int .i64 0, .int .i64 0, .int .i64 0, .int .i64 0, .string ⟨#[]⟩, .int .i64 0, .int .u32 0, .slice none 0 0, .int .i64 0, .slice none 0 0, .slice none 0 0, .int .i64 0, .slice none 0 0, .slice none 0 0, .slice none 0 0] #[.int .i64 0, .int .i64 0, .int .i64 0, .int .i64 0, .int .i64 0, .int .i64 0, .int .i64 0, .int .i64 0, .string ⟨#[]⟩, .int .i64 0, .int .u32 0, .slice none 0 0, .int .i64 0, .slice none 0 0, .slice none 0 0, .int .i64 0, .slice none 0 0, .slice none 0 0, .slice none 0 0] _ _ rfl rfl rfl rfl rfl (by kernel_rfl) rfl HZ2.out (by simp) zero_ones rfl ?_; intro wf hx hc))
  have HF : Hid (RetNoM w (.int .i64 4) (.returned (.tuple #[.agg #[.int .i64 0, .int .i64 0, .int .i64 0, .int .i64 0, .int .i64 0, .int .i64 0, .int .i64 0, .int .i64 0, .string ⟨#[]⟩, .int .i64 0, .int .u32 0, .slice none 0 0, .int .i64 0, .slice none 0 0, .slice none 0 0, .int .i64 0, .slice none 0 0, .slice none 0 0, .slice none 0 0], .int .i64 4])) wf) := ⟨rfl, hc.below HB2.out HB2.out.size (by simp)⟩
  have hld := run_ldvM w.heap.size _ rfl hx.box
  refine bodyPost_ret (v := .tuple #[.agg #[.int .i64 0, .int .i64 0, .int .i64 0, .int .i64 0, .int .i64 0, .int .i64 0, .int .i64 0, .int .i64 0, .string ⟨#[]⟩, .int .i64 0, .int .u32 0, .slice none 0 0, .int .i64 0, .slice none 0 0, .slice none 0 0, .int .i64 0, .slice none 0 0, .slice none 0 0, .slice none 0 0], .int .i64 4]) (results_cell2 Try.results26 rfl rfl hld) rfl ?_
  exact HF.out

theorem bigP_of {a b : Int} (ha : I64 a) (hb : I64 b) : BigP (lkP a b) := by
  unfold BigP lkP
  unfold I64 at *
  refine ⟨⟨?_, ?_⟩, ⟨?_, ?_⟩⟩ <;> simp only <;> omega

set_option maxRecDepth 100000 in
set_option maxHeartbeats 1000000 in
theorem dlv_cut {w : World} {base R : Nat} {N : List Nat} {ms : List Pm} {ks : List (Int × Int)} (h : Nt w base R N ms ks) (n : Nat) (hn : ms.length = n) (h0 : 0 < n) (i : Int) (p : Nat) (hp : posI i n = p) (hcut : lkP (ms.getD p pm0).frm (ms.getD p pm0).to ∈ ks) : Calls Try.prog 26 #[.pointer (some ⟨R, 0, none⟩), .int .i64 i] w (RetNoM w (.int .i64 7)) := by
  have HB0 : Hid (Below w.heap.size w (w.alloc (.cells #[.int .i64 0, .int .i64 0, .int .i64 0, .int .i64 0, .int .i64 0, .int .i64 0, .int .i64 0, .int .i64 0, .string ⟨#[]⟩, .int .i64 0, .int .u32 0, .slice none 0 0, .int .i64 0, .slice none 0 0, .slice none 0 0, .int .i64 0, .slice none 0 0, .slice none 0 0, .slice none 0 0] 35))) := below_one w _
  have HZ0 := Lib.hid (bx_new w #[.int .i64 0, .int .i64 0, .int .i64 0, .int .i64 0, .int .i64 0, .int .i64 0, .int .i64 0, .int .i64 0, .string ⟨#[]⟩, .int .i64 0, .int .u32 0, .slice none 0 0, .int .i64 0, .slice none 0 0, .slice none 0 0, .int .i64 0, .slice none 0 0, .slice none 0 0, .slice none 0 0] 35)
  have hpn : p < n := by rw [← hp]; exact posI_lt i n h0
  have HA0 := Lib.hid (h.below HB0.out)
  have HG : Hid ((ms.getD p pm0).Wf ∧ sndMg (ms.getD p pm0) = true) := h.good _ (by rw [List.getD_eq_getElem?_getD, List.getElem?_eq_getElem (by omega)]; exact List.getElem_mem _)
  have HP := Lib.hid hp
  have HN := Lib.hid hn
  have HNL := Lib.hid h.nLt
  have HC := Lib.hid hcut
  have HW0 : Hid (w.heap.size < (w.alloc (.cells #[.int .i64 0, .int .i64 0, .int .i64 0, .int .i64 0, .int .i64 0, .int .i64 0, .int .i64 0, .int .i64 0, .string ⟨#[]⟩, .int .i64 0, .int .u32 0, .slice none 0 0, .int .i64 0, .slice none 0 0, .slice none 0 0, .int .i64 0, .slice none 0 0, .slice none 0 0, .slice none 0 0] 35)).heap.size) := by show _ < _; simp
  clear h hp hn hcut
  go_enter Try.func26, Try.ntmps26
  go_wp2_with fail
  generalize (w.alloc (.cells #[.int .i64 0, .int .i64 0, .int .i64 0, .int .i64 0, .int .i64 0, .int .i64 0, .int .i64 0, .int .i64 0, .string ⟨#[]⟩, .int .i64 0, .int .u32 0, .slice none 0 0, .int .i64 0, .slice none 0 0, .slice none 0 0, .int .i64 0, .slice none 0 0, .slice none 0 0, .slice none 0 0] 35)) = w0 at *
  refine (look_any HA0.out n HN.out h0 i p HP.out).mono ?_
  rintro e w1 ⟨r, hrm, rfl, hk, hb⟩
  have HRM := Lib.hid hrm
  have HK1 := Lib.hid hk
  have HA1 := Lib.hid (HA0.out.below hb)
  have HZ1 := Lib.hid (HZ0.out.chg (gs := []) (Chg.of_below hb) (by simp))
  have HB1 := Lib.hid (HB0.out.trans (hb.mono HB0.out.size))
  have HW1 : Hid (w0.heap.size ≤ w1.heap.size) := hb.size
  have HBIG : Hid (BigP (lkP r.m.frm r.m.to)) := bigP_of (by rw [hrm]; exact HG.out.1.frm) (by rw [hrm]; exact HG.out.1.to)
  clear hrm hk hb HZ0 HB0 HA0
  go_wp2_with (refine wpList_st 35 19 (w1.heap.size) 0 35 r.cells #[.int .i64 0, .int .i64 0, .int .i64 0, .int .i64 0, .int .i64 0, .int .i64 0, .int .i64 0, .int .i64 0, .string ⟨#[]⟩, .int .i64 0, .int .u32 0, .slice none 0 0, .int .i64 0, .slice none 0 0, .slice none 0 0, .int .i64 0, .slice none 0 0, .slice none 0 0, .slice none 0 0] r.cells _ _ rfl rfl rfl rfl rfl (by kernel_rfl) rfl (bx_new w1 #[.int .i64 0, .int .i64 0, .int .i64 0, .int .i64 0, .int .i64 0, .int .i64 0, .int .i64 0, .int .i64 0, .string ⟨#[]⟩, .int .i64 0, .int .u32 0, .slice none 0 0, .int .i64 0, .slice none 0 0, .slice none 0 0, .int .i64 0, .slice none 0 0, .slice none 0 0, .slice none 0 0] 35) (by simp) (cells_ones r) rfl ?_; intro w2 hx2 hc2; have hfm : w2.cell? ⟨w1.heap.size, 1, none⟩ = some (.int .i64 r.m.frm) := hx2.box 1 _ rfl; have hto : w2.cell? ⟨w1.heap.size, 2, none⟩ = some (.int .i64 r.m.to) := hx2.box 2 _ rfl; have hb2 : Below w1.heap.size w1 w2 := hc2.below (below_one w1 _) (by simp) (by simp); have HA2 := Lib.hid (HA1.out.below hb2); have HX2 := Lib.hid hx2; have HZ2 := Lib.hid (HZ1.out.chg (gs := []) (Chg.of_below hb2) (by simp)); have HB2 := Lib.hid (HB1.out.trans (hb2.mono HB1.out.size)); have HK2 := Lib.hid (HK1.out.step (hs := []) (Chg.of_below hb2) (by simp)); clear hx2 hc2 hb2 HZ1 HB1 HK1 HA1)
  refine (link_any _ _ _).mono ?_
  rintro e w3 ⟨rfl, rfl⟩
  obtain ⟨ga2, o2, hA2⟩ := HA2.out
  have HA2' := Lib.hid hA2
  clear hA2
  go_wp2_with fail
  refine (isCut_any HA2'.out (lkP r.m.frm r.m.to) HBIG.out).mono ?_
  rw [decide_eq_true (by rw [HRM.out]; exact HC.out)]
  rintro e w3 ⟨rfl, hb3⟩
  have HZ3 := Lib.hid (HZ2.out.chg (gs := []) (Chg.of_below hb3) (by simp))
  have HB3 := Lib.hid (HB2.out.trans (hb3.mono HB2.out.size))
  clear hb3 HZ2 HB2
  go_wp2_with (refine wpList_st 35 19 (w.heap.size) 0 35 #[.int .i64 0, .int .i64 0, .int .i64 0, .int .i64 0, .int .i64 0, .int .i64 0, .int .i64 0, .int .i64 0, .string ⟨#[]⟩, .int .i64 0, .int .u32 0, .slice none 0 0, .int .i64 0, .slice none 0 0, .slice none 0 0, .int .i64 0, .slice none 0 0, .slice none 0 0, .slice none 0 0] #[.int .i64 0, .int .i64 0, .int .i64 0, .int .i64 0, .int .i64 0, .int .i64 0, .int .i64 0, .int .i64 0, .string ⟨#[]⟩, .int .i64 0, .int .u32 0, .slice none 0 0, .int .i64 0, .slice none 0 0, .slice none 0 0, .int .i64 0, .slice none 0 0, .slice none 0 0, .slice none 0 0] #[.int .i64 0, .int .i64 0, .int .i64 0, .int .i64 0, .int .i64 0, .int .i64 0, .int .i64 0, .int .i64 0, .string ⟨#[]⟩, .int .i64 0, .int .u32 0, .slice none 0 0, .int .i64 0, .slice none 0 0, .slice none 0 0, .int .i64 0, .slice none 0 0, .slice none 0 0, .slice none 0 0] _ _ rfl rfl rfl rfl rfl (by kernel_rfl) rfl HZ3.out (by simp) zero_ones rfl ?_; intro wf hx hc)
  have HF : Hid (RetNoM w (.int .i64 7) (.returned (.tuple #[.agg #[.int .i64 0, .int .i64 0, .int .i64 0, .int .i64 0, .int .i64 0, .int .i64 0, .int .i64 0, .int .i64 0, .string ⟨#[]⟩, .int .i64 0, .int .u32 0, .slice none 0 0, .int .i64 0, .slice none 0 0, .slice none 0 0, .int .i64 0, .slice none 0 0, .slice none 0 0, .slice none 0 0], .int .i64 7])) wf) := ⟨rfl, hc.below HB3.out HB3.out.size (by simp)⟩
  have hld := run_ldvM w.heap.size _ rfl hx.box
  refine bodyPost_ret (v := .tuple #[.agg #[.int .i64 0, .int .i64 0, .int .i64 0, .int .i64 0, .int .i64 0, .int .i64 0, .int .i64 0, .int .i64 0, .string ⟨#[]⟩, .int .i64 0, .int .u32 0, .slice none 0 0, .int .i64 0, .slice none 0 0, .slice none 0 0, .int .i64 0, .slice none 0 0, .slice none 0 0, .slice none 0 0], .int .i64 7]) (results_cell2 Try.results26 rfl rfl hld) rfl ?_
  exact HF.out

/-- A message is handed back, and is gone from the network. -/
def RetDv (w : World) (base R : Nat) (N : List Nat) (ms : List Pm) (ks : List (Int × Int)) (m : Pm) (e : Ending) (w' : World) : Prop :=
  ∃ (r : Rm) (N' : List Nat), r.m = m ∧ e = .returned (.tuple #[.agg r.cells, .int .i64 0]) ∧ Kept w.heap.size w' (fun w2 => MsgAt w2 r) ∧ Nt w' base R N' ms ks ∧ Mv w w' N N'

set_option maxRecDepth 100000 in
set_option maxHeartbeats 2000000 in
theorem dlv_any {w : World} {base R : Nat} {N : List Nat} {ms : List Pm} {ks : List (Int × Int)} (h : Nt w base R N ms ks) (n : Nat) (hn : ms.length = n) (h0 : 0 < n) (i : Int) (p : Nat) (hp : posI i n = p) (hcut : lkP (ms.getD p pm0).frm (ms.getD p pm0).to ∉ ks) : Calls Try.prog 26 #[.pointer (some ⟨R, 0, none⟩), .int .i64 i] w (RetDv w base R N (ms.eraseIdx p) ks (ms.getD p pm0)) := by
  have HB0 : Hid (Below w.heap.size w (w.alloc (.cells #[.int .i64 0, .int .i64 0, .int .i64 0, .int .i64 0, .int .i64 0, .int .i64 0, .int .i64 0, .int .i64 0, .string ⟨#[]⟩, .int .i64 0, .int .u32 0, .slice none 0 0, .int .i64 0, .slice none 0 0, .slice none 0 0, .int .i64 0, .slice none 0 0, .slice none 0 0, .slice none 0 0] 35))) := below_one w _
  have HZ0 := Lib.hid (bx_new w #[.int .i64 0, .int .i64 0, .int .i64 0, .int .i64 0, .int .i64 0, .int .i64 0, .int .i64 0, .int .i64 0, .string ⟨#[]⟩, .int .i64 0, .int .u32 0, .slice none 0 0, .int .i64 0, .slice none 0 0, .slice none 0 0, .int .i64 0, .slice none 0 0, .slice none 0 0, .slice none 0 0] 35)
  have hpn : p < n := by rw [← hp]; exact posI_lt i n h0
  have HA0 := Lib.hid (h.below HB0.out)
  have HG : Hid ((ms.getD p pm0).Wf ∧ sndMg (ms.getD p pm0) = true) := h.good _ (by rw [List.getD_eq_getElem?_getD, List.getElem?_eq_getElem (by omega)]; exact List.getElem_mem _)
  have HP := Lib.hid hp
  have HN := Lib.hid hn
  have HNL := Lib.hid h.nLt
  have HC := Lib.hid hcut
  have HW0 : Hid (w.heap.size < (w.alloc (.cells #[.int .i64 0, .int .i64 0, .int .i64 0, .int .i64 0, .int .i64 0, .int .i64 0, .int .i64 0, .int .i64 0, .string ⟨#[]⟩, .int .i64 0, .int .u32 0, .slice none 0 0, .int .i64 0, .slice none 0 0, .slice none 0 0, .int .i64 0, .slice none 0 0, .slice none 0 0, .slice none 0 0] 35)).heap.size) := by show _ < _; simp
  clear h hp hn hcut
  go_enter Try.func26, Try.ntmps26
  go_wp2_with fail
  generalize (w.alloc (.cells #[.int .i64 0, .int .i64 0, .int .i64 0, .int .i64 0, .int .i64 0, .int .i64 0, .int .i64 0, .int .i64 0, .string ⟨#[]⟩, .int .i64 0, .int .u32 0, .slice none 0 0, .int .i64 0, .slice none 0 0, .slice none 0 0, .int .i64 0, .slice none 0 0, .slice none 0 0, .slice none 0 0] 35)) = w0 at *
  refine (look_any HA0.out n HN.out h0 i p HP.out).mono ?_
  rintro e w1 ⟨r, hrm, rfl, hk, hb⟩
  have HRM := Lib.hid hrm
  have HK1 := Lib.hid hk
  have HA1 := Lib.hid (HA0.out.below hb)
  have HZ1 := Lib.hid (HZ0.out.chg (gs := []) (Chg.of_below hb) (by simp))
  have HB1 := Lib.hid (HB0.out.trans (hb.mono HB0.out.size))
  have HW1 : Hid (w0.heap.size ≤ w1.heap.size) := hb.size
  have HBIG : Hid (BigP (lkP r.m.frm r.m.to)) := bigP_of (by rw [hrm]; exact HG.out.1.frm) (by rw [hrm]; exact HG.out.1.to)
  clear hrm hk hb HZ0 HB0 HA0
  go_wp2_with (refine wpList_st 35 19 (w1.heap.size) 0 35 r.cells #[.int .i64 0, .int .i64 0, .int .i64 0, .int .i64 0, .int .i64 0, .int .i64 0, .int .i64 0, .int .i64 0, .string ⟨#[]⟩, .int .i64 0, .int .u32 0, .slice none 0 0, .int .i64 0, .slice none 0 0, .slice none 0 0, .int .i64 0, .slice none 0 0, .slice none 0 0, .slice none 0 0] r.cells _ _ rfl rfl rfl rfl rfl (by kernel_rfl) rfl (bx_new w1 #[.int .i64 0, .int .i64 0, .int .i64 0, .int .i64 0, .int .i64 0, .int .i64 0, .int .i64 0, .int .i64 0, .string ⟨#[]⟩, .int .i64 0, .int .u32 0, .slice none 0 0, .int .i64 0, .slice none 0 0, .slice none 0 0, .int .i64 0, .slice none 0 0, .slice none 0 0, .slice none 0 0] 35) (by simp) (cells_ones r) rfl ?_; intro w2 hx2 hc2; have hfm : w2.cell? ⟨w1.heap.size, 1, none⟩ = some (.int .i64 r.m.frm) := hx2.box 1 _ rfl; have hto : w2.cell? ⟨w1.heap.size, 2, none⟩ = some (.int .i64 r.m.to) := hx2.box 2 _ rfl; have hb2 : Below w1.heap.size w1 w2 := hc2.below (below_one w1 _) (by simp) (by simp); have HA2 := Lib.hid (HA1.out.below hb2); have HX2 := Lib.hid hx2; have HZ2 := Lib.hid (HZ1.out.chg (gs := []) (Chg.of_below hb2) (by simp)); have HB2 := Lib.hid (HB1.out.trans (hb2.mono HB1.out.size)); have HK2 := Lib.hid (HK1.out.step (hs := []) (Chg.of_below hb2) (by simp)); clear hx2 hc2 hb2 HZ1 HB1 HK1 HA1)
  refine (link_any _ _ _).mono ?_
  rintro e w3 ⟨rfl, rfl⟩
  obtain ⟨ga2, o2, hA2⟩ := HA2.out
  have HA2' := Lib.hid hA2
  clear hA2
  go_wp2_with fail
  refine (isCut_any HA2'.out (lkP r.m.frm r.m.to) HBIG.out).mono ?_
  rw [decide_eq_false (by rw [HRM.out]; exact HC.out)]
  rintro e w3 ⟨rfl, hb3⟩
  have hx3 := HX2.out.box.below hb3
  have HZ3 := Lib.hid (HZ2.out.chg (gs := []) (Chg.of_below hb3) (by simp))
  have HB3 := Lib.hid (HB2.out.trans (hb3.mono HB2.out.size))
  have HK3 := Lib.hid (HK2.out.step (hs := []) (Chg.of_below hb3) (by simp))
  have HA3 := Lib.hid (HA2.out.below hb3)
  have HX3 := Lib.hid hx3
  obtain ⟨B6, hB6⟩ : ∃ B6, w1.heap.size = B6 := ⟨_, rfl⟩
  have HB6 : Hid (w.heap.size < B6) := by show _ < _; have h1 := HW0.out; have h2 := HW1.out; omega
  rw [hB6] at HX3 ⊢
  clear hb3 hx3 HZ2 HB2 HK2 HA2 HA2' HX2 hfm hto hB6
  go_wp2_with fail
  refine wp_region_S2 ((fun x => Box x B6 r.cells)) (by kernel_rfl) ?_
  have hSw : Box w3.drew B6 r.cells := HX3.out
  have HZ4 : Hid (Bx w3.drew w.heap.size 35 #[.int .i64 0, .int .i64 0, .int .i64 0, .int .i64 0, .int .i64 0, .int .i64 0, .int .i64 0, .int .i64 0, .string ⟨#[]⟩, .int .i64 0, .int .u32 0, .slice none 0 0, .int .i64 0, .slice none 0 0, .slice none 0 0, .int .i64 0, .slice none 0 0, .slice none 0 0, .slice none 0 0]) := HZ3.out
  have HB4 := Lib.hid (HB3.out.trans (Below.drew (Below.refl _ w3)))
  have HK4 := Lib.hid (HK3.out.step (hs := []) ((Chg.refl _ w3).drew) (by simp))
  have HA4 := Lib.hid (HA3.out.below (Below.drew (Below.refl _ w3)))
  clear HX3 HZ3 HB3 HK3 HA3
  generalize w3.drew = w4 at *
  refine wpAnyH_tkS2 (i := 0) 25 (v := .agg r.cells) rfl rfl (by kernel_rfl) (by kernel_rfl) (by kernel_rfl) (by rfl) hSw (fun wq hwq => exec_ldM _ _ _ rfl rfl rfl hwq) ?_
  simp only [List.setIfInBounds_toArray, List.set_cons_zero, List.set_cons_succ]
  refine wpAnyH_tkS2 (i := 1) 26 (v := ?_) rfl rfl (by kernel_rfl) (by kernel_rfl) (by kernel_rfl) (by rfl) hSw (fun wq hwq => ?_) ?_
  rotate_left
  · (have hx := True.intro; go_simp <;> with_reducible rfl)
  simp only [List.setIfInBounds_toArray, List.set_cons_zero, List.set_cons_succ]
  refine wpAnyH_tkS2 (i := 2) 27 (v := ?_) rfl rfl (by kernel_rfl) (by kernel_rfl) (by kernel_rfl) (by rfl) hSw (fun wq hwq => ?_) ?_
  rotate_left
  · (have hx := True.intro; go_simp <;> with_reducible rfl)
  simp only [List.setIfInBounds_toArray, List.set_cons_zero, List.set_cons_succ]
  have hlt4 : w.heap.size < w4.heap.size := (Array.getElem?_eq_some_iff.1 HZ4.out).1
  refine wpAnyH_oneS2 (i := 3) rfl (by kernel_rfl) (by rfl) (fun K hK => ?_)
  go_simp
  refine (drop_any HA4.out n HN.out h0 i p HP.out).mono ?_
  rintro e w5 ⟨rfl, N', hN', hM'⟩
  have hnB : ∀ b, w.heap.size ≤ b → b ∉ N := fun b hb e => by have := (HNL.out b e).2; omega
  have hs5 : Box w5 B6 r.cells := fun k v hk => hM'.chg.cell (hSw k v hk) (hnB B6 (Nat.le_of_lt HB6.out))
  have HZ5 := Lib.hid (HZ4.out.chg hM'.chg (hnB _ (Nat.le_refl _)))
  have HK5 := Lib.hid (HK4.out.step hM'.chg fun g hg => Nat.lt_trans (HNL.out g hg).2 HW0.out)
  have HN5 := Lib.hid hN'
  have HMD := Lib.hid hM'
  have HM5 : Hid (Mv w w5 N N') := (Mv.of_below N HB4.out).trans hM'
  refine hK.out _ _ ((fun x => Box x B6 r.cells)) (fun _ h => h) (hs5) ?_
  clear hK K
  clear hSw hN' hM'
  have hSw := hs5
  clear hs5
  refine wpAnyH_oneS2 (i := 4) rfl (by kernel_rfl) (by rfl) (fun K hK => ?_)
  refine wp_stS 35 19 w.heap.size 0 35 r.cells #[.int .i64 0, .int .i64 0, .int .i64 0, .int .i64 0, .int .i64 0, .int .i64 0, .int .i64 0, .int .i64 0, .string ⟨#[]⟩, .int .i64 0, .int .u32 0, .slice none 0 0, .int .i64 0, .slice none 0 0, .slice none 0 0, .int .i64 0, .slice none 0 0, .slice none 0 0, .slice none 0 0] r.cells _ _ rfl rfl rfl rfl (by kernel_rfl) rfl HZ5.out (by simp) (cells_ones r) rfl ?_
  intro wf hx hc
  have hs6 : Box wf B6 r.cells := fun k v hk => hc.cell (hSw k v hk) (by simp; have := HB6.out; omega)
  refine hK.out _ _ ((fun x => Box x B6 r.cells)) (fun _ h => h) (hs6) ?_
  clear hK K
  clear hSw
  have hSw := hs6
  clear hs6
  refine wpAnyH_tkS2 (i := 5) 5 (v := ?_) rfl rfl (by kernel_rfl) (by kernel_rfl) (by kernel_rfl) (by rfl) hSw (fun wq hwq => ?_) ?_
  rotate_left
  · (have hx := True.intro; go_simp <;> with_reducible rfl)
  simp only [List.setIfInBounds_toArray, List.set_cons_zero, List.set_cons_succ]
  refine wpAnyH_done (by kernel_rfl) ?_ _
  refine NoPanic.normal ?_
  go_wp2
  have HF : Hid (RetDv w base R N (ms.eraseIdx p) ks (ms.getD p pm0) (.returned (.tuple #[.agg r.cells, .int .i64 0])) wf) := ⟨r, N', HRM.out, rfl, (HK5.out.step hc (by simp; exact HW0.out)).low (Nat.le_of_lt HW0.out), HN5.out.chg hc (fun g hg => by simp; rintro rfl; rcases HMD.out.now _ hg with h1 | h1; exact hnB _ (Nat.le_refl _) h1; omega), HM5.out.chg.wide hc (fun g hg => by simp at hg; right; omega), HM5.out.now⟩
  have hld := run_ldvM w.heap.size _ rfl hx.box
  refine bodyPost_ret (v := .tuple #[.agg r.cells, .int .i64 0]) (results_cell2 Try.results26 rfl rfl hld) rfl ?_
  exact HF.out

end Go.Proofs.Ytggjpjpemgpeeaa
