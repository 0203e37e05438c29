/-
  msg.Decode.
-/
import Derived.Test.YtggjpjpemgpeeaaWalksH8
import Derived.Test.YtggjpjpemgpeeaaWalksH9
import Derived.Test.YtggjpjpemgpeeaaWalksZ1
namespace Go.Proofs.Ytggjpjpemgpeeaa
open Go.RowKit

theorem wpList_ung {P : Program} {ops : Array Oper} {rest : List Oper} {o : Oper} {a : Act} {Q : Exit → Act → World → Prop} {w : World} (hw : Region.wanted o (yielded ops a.tmps) = true)
    (h : wpList P ops Q ({ o with guard := none } :: rest) a w) : wpList P ops Q (o :: rest) a w := by
  unfold wpList at h ⊢
  rw [if_pos (show Region.wanted { o with guard := none } (yielded ops a.tmps) = true from rfl)] at h
  rw [if_pos hw]
  exact h

theorem fin_dec (s : Pk.St) : Pk.fin s = decide (s = ([], false)) := by
  obtain ⟨l, b⟩ := s
  unfold Pk.fin
  cases b <;> cases l <;> simp

theorem rm0_cells : rm0.cells = #[.int .i64 0, .int .i64 0, .int .i64 0, .int .i64 0, .int .i64 0, .int .i64 0, .int .i64 0, .int .i64 0, .string ⟨#[]⟩, .int .i64 0, .int .u32 0, .slice none 0 0, .int .i64 0, .slice none 0 0, .slice none 0 0, .int .i64 0, .slice none 0 0, .slice none 0 0, .slice none 0 0] := rfl

theorem zero_ones : ∀ v ∈ (#[.int .i64 0, .int .i64 0, .int .i64 0, .int .i64 0, .int .i64 0, .int .i64 0, .int .i64 0, .int .i64 0, .string ⟨#[]⟩, .int .i64 0, .int .u32 0, .slice none 0 0, .int .i64 0, .slice none 0 0, .slice none 0 0, .int .i64 0, .slice none 0 0, .slice none 0 0, .slice none 0 0] : Array Value).toList, v.oneCell' = true := by decide

theorem cells_ones (r : Rm) : ∀ v ∈ r.cells.toList, v.oneCell' = true := by
  intro v hv
  simp [Rm.cells] at hv
  rcases hv with rfl | rfl | rfl | rfl | rfl | rfl | rfl | rfl | rfl | rfl | rfl | rfl | rfl | rfl | rfl | rfl | rfl | rfl | rfl <;> rfl

/-- Decode's answer. -/
def RetDm (w : World) (ps : List Nat) (e : Ending) (w' : World) : Prop :=
  (okMg ps = false ∧ e = .returned (.tuple #[.agg #[.int .i64 0, .int .i64 0, .int .i64 0, .int .i64 0, .int .i64 0, .int .i64 0, .int .i64 0, .int .i64 0, .string ⟨#[]⟩, .int .i64 0, .int .u32 0, .slice none 0 0, .int .i64 0, .slice none 0 0, .slice none 0 0, .int .i64 0, .slice none 0 0, .slice none 0 0, .slice none 0 0], .int .i64 2]) ∧ Below w.heap.size w w') ∨
  (okMg ps = true ∧ ∃ r : Rm, r.m = decMg ps ∧ e = .returned (.tuple #[.agg r.cells, .int .i64 0]) ∧ Kept w.heap.size w' (fun w2 => MsgAt w2 r) ∧ Below w.heap.size w w')


set_option maxRecDepth 100000 in
set_option maxHeartbeats 4000000 in
theorem decMg_any (a : Option Addr) (cap l : Nat) (ps : List Nat) (w : World) (hl : ps.length = l) (hm : l ≤ 100000000) (h : SeenAt w a cap ps) :
    Calls Try.prog 16 #[.slice a l cap] w (RetDm w ps) := by
  have HB0 : Hid (Below w.heap.size w (w.alloc (.cells #[.int .i64 0, .int .i64 0, .int .i64 0, .int .i64 0, .int .i64 0, .int .i64 0, .int .i64 0, .int .i64 0, .string ⟨#[]⟩, .int .i64 0, .int .u32 0, .slice none 0 0, .int .i64 0, .slice none 0 0, .slice none 0 0, .int .i64 0, .slice none 0 0, .slice none 0 0, .slice none 0 0] 35))) := below_one w _
  have HZ0 := Lib.hid (bx_new w #[.int .i64 0, .int .i64 0, .int .i64 0, .int .i64 0, .int .i64 0, .int .i64 0, .int .i64 0, .int .i64 0, .string ⟨#[]⟩, .int .i64 0, .int .u32 0, .slice none 0 0, .int .i64 0, .slice none 0 0, .slice none 0 0, .int .i64 0, .slice none 0 0, .slice none 0 0, .slice none 0 0] 35)
  have HS0 := Lib.hid (h.below HB0.out)
  have HW0 : Hid (w.heap.size < (w.alloc (.cells #[.int .i64 0, .int .i64 0, .int .i64 0, .int .i64 0, .int .i64 0, .int .i64 0, .int .i64 0, .int .i64 0, .string ⟨#[]⟩, .int .i64 0, .int .u32 0, .slice none 0 0, .int .i64 0, .slice none 0 0, .slice none 0 0, .int .i64 0, .slice none 0 0, .slice none 0 0, .slice none 0 0] 35)).heap.size) := by show _ < _; simp
  have HL := Lib.hid hl
  clear h hl
  cases hin : inB ps
  · have HNO : Hid (okMg ps = false) := by show _ = _; rw [okMg_in, hin, Bool.false_and, Bool.false_and]
    have HIN := Lib.hid hin
    clear hin
    go_enter Try.func16, Try.ntmps16
    go_wp2_with fail
    generalize w.alloc (.cells #[.int .i64 0, .int .i64 0, .int .i64 0, .int .i64 0, .int .i64 0, .int .i64 0, .int .i64 0, .int .i64 0, .string ⟨#[]⟩, .int .i64 0, .int .u32 0, .slice none 0 0, .int .i64 0, .slice none 0 0, .slice none 0 0, .int .i64 0, .slice none 0 0, .slice none 0 0, .slice none 0 0] 35) = w0 at *
    refine (inside_no _ _ _ ps _ HL.out (by omega) HS0.out HIN.out).mono ?_
    rintro e w1 ⟨rfl, hb1⟩
    have HZ1 := Lib.hid (HZ0.out.chg (gs := []) (Chg.of_below hb1) (by simp))
    have HB1 := Lib.hid (HB0.out.trans (hb1.mono HB0.out.size))
    clear hb1 HZ0 HB0 HS0
    go_wp2_with (refine wpList_st 35 19 w.heap.size 0 35 #[.int .i64 0, .int .i64 0, .int .i64 0, .int .i64 0, .int .i64 0, .int .i64 0, .int .i64 0, .int .i64 0, .string ⟨#[]⟩, .int .i64 0, .int .u32 0, .slice none 0 0, .int .i64 0, .slice none 0 0, .slice none 0 0, .int .i64 0, .slice none 0 0, .slice none 0 0, .slice none 0 0] #[.int .i64 0, .int .i64 0, .int .i64 0, .int .i64 0, .int .i64 0, .int .i64 0, .int .i64 0, .int .i64 0, .string ⟨#[]⟩, .int .i64 0, .int .u32 0, .slice none 0 0, .int .i64 0, .slice none 0 0, .slice none 0 0, .int .i64 0, .slice none 0 0, .slice none 0 0, .slice none 0 0] #[.int .i64 0, .int .i64 0, .int .i64 0, .int .i64 0, .int .i64 0, .int .i64 0, .int .i64 0, .int .i64 0, .string ⟨#[]⟩, .int .i64 0, .int .u32 0, .slice none 0 0, .int .i64 0, .slice none 0 0, .slice none 0 0, .int .i64 0, .slice none 0 0, .slice none 0 0, .slice none 0 0] _ _ rfl rfl rfl rfl rfl (by kernel_rfl) rfl HZ1.out (by simp) zero_ones rfl ?_; intro wf hx hc)
    have HF : Hid (RetDm w ps (.returned (.tuple #[.agg #[.int .i64 0, .int .i64 0, .int .i64 0, .int .i64 0, .int .i64 0, .int .i64 0, .int .i64 0, .int .i64 0, .string ⟨#[]⟩, .int .i64 0, .int .u32 0, .slice none 0 0, .int .i64 0, .slice none 0 0, .slice none 0 0, .int .i64 0, .slice none 0 0, .slice none 0 0, .slice none 0 0], .int .i64 2])) wf) := .inl ⟨HNO.out, rfl, hc.below HB1.out HB1.out.size (by simp)⟩
    have hld := run_ldvM w.heap.size _ rfl hx.box
    refine bodyPost_ret (v := .tuple #[.agg #[.int .i64 0, .int .i64 0, .int .i64 0, .int .i64 0, .int .i64 0, .int .i64 0, .int .i64 0, .int .i64 0, .string ⟨#[]⟩, .int .i64 0, .int .u32 0, .slice none 0 0, .int .i64 0, .slice none 0 0, .slice none 0 0, .int .i64 0, .slice none 0 0, .slice none 0 0, .slice none 0 0], .int .i64 2]) (results_cell2 Try.results16 rfl rfl hld) rfl ?_
    exact HF.out
  · have HOK : Hid (okMg ps = (Pk.fin (rdTM (inM ps)).2 && sndMg (ofTup (rdTM (inM ps)).1))) := by show _ = _; rw [okMg_in, hin, fin_dec, Bool.true_and]
    have HIN := Lib.hid hin
    clear hin
    go_enter Try.func16, Try.ntmps16
    go_wp2_with fail
    generalize w.alloc (.cells #[.int .i64 0, .int .i64 0, .int .i64 0, .int .i64 0, .int .i64 0, .int .i64 0, .int .i64 0, .int .i64 0, .string ⟨#[]⟩, .int .i64 0, .int .u32 0, .slice none 0 0, .int .i64 0, .slice none 0 0, .slice none 0 0, .int .i64 0, .slice none 0 0, .slice none 0 0, .slice none 0 0] 35) = w0 at *
    refine (inside_yes _ _ _ ps _ HL.out (by omega) HS0.out HIN.out).mono ?_
    rintro e w1 ⟨x, c, rfl, hs1, hl1, hb1⟩
    have HZ1 := Lib.hid (HZ0.out.chg (gs := []) (Chg.of_below hb1) (by simp))
    have HB1 := Lib.hid (HB0.out.trans (hb1.mono HB0.out.size))
    have HW1 : Hid (w.heap.size < w1.heap.size) := Nat.lt_of_lt_of_le HW0.out hb1.size
    have HS1 := Lib.hid hs1
    have HL1 := Lib.hid hl1
    have HBY := Lib.hid hs1.byte
    clear hb1 HZ0 HB0 HS0 hs1 hl1
    obtain ⟨l5, hl5⟩ : ∃ q, l - 5 = q := ⟨_, rfl⟩
    have hl5' : l5 ≤ 100000000 := by omega
    rw [hl5] at HL1 ⊢
    clear hl5
    go_wp2_with fail
    refine (newH _ _ _ ((cutMg ps).drop 1) _ HL1.out (by omega) HS1.out).mono ?_
    rintro e w2 ⟨R, H, rfl, hR, hr2, hb2⟩
    have HZ2 := Lib.hid (HZ1.out.chg (gs := []) (Chg.of_below hb2) (by simp))
    have HB2 := Lib.hid (HB1.out.trans (hb2.mono HB1.out.size))
    have HW2 : Hid (w.heap.size < w2.heap.size) := Nat.lt_of_lt_of_le HW1.out hb2.size
    have hRw : w.heap.size < R := Nat.lt_of_lt_of_le HW1.out hR
    have HR2 := Lib.hid hr2
    clear hb2 hr2 HZ1 HB1 HS1 hR
    have K0 : Gf.Bytes (inM ps).1 ∧ (inM ps).1.length ≤ 100000000 := ⟨HBY.out, by show ((cutMg ps).drop 1).length ≤ _; rw [HL1.out]; exact hl5'⟩
    go_wp2_with fail
    refine (readMessage_any R (inM ps) _ HR2.out K0).mono ?_
    rintro e w3 ⟨r, hrm, rfl, hk3, hr3, hb3⟩
    rw [← hrm] at HOK
    have HRM : Hid (r.m = decMg ps) := hrm
    clear hrm K0
    have HK3 := Lib.hid hk3
    have HR3 := Lib.hid hr3
    have HZ3 := Lib.hid (HZ2.out.chg hb3 (by simp; omega))
    have HB3 := Lib.hid (hb3.below HB2.out HB2.out.size (by simp; omega))
    have HW3 : Hid (w.heap.size < w3.heap.size) := Nat.lt_of_lt_of_le HW2.out hb3.size
    clear hk3 hr3 hb3 HR2 HZ2
    generalize (rdTM (inM ps)).2 = s3 at *
    go_wp2_with (refine wpList_st 35 19 w3.heap.size 0 35 r.cells #[.int .i64 0, .int .i64 0, .int .i64 0, .int .i64 0, .int .i64 0, .int .i64 0, .int .i64 0, .int .i64 0, .string ⟨#[]⟩, .int .i64 0, .int .u32 0, .slice none 0 0, .int .i64 0, .slice none 0 0, .slice none 0 0, .int .i64 0, .slice none 0 0, .slice none 0 0, .slice none 0 0] r.cells _ _ rfl rfl rfl rfl rfl (by kernel_rfl) rfl (bx_new w3 #[.int .i64 0, .int .i64 0, .int .i64 0, .int .i64 0, .int .i64 0, .int .i64 0, .int .i64 0, .int .i64 0, .string ⟨#[]⟩, .int .i64 0, .int .u32 0, .slice none 0 0, .int .i64 0, .slice none 0 0, .slice none 0 0, .int .i64 0, .slice none 0 0, .slice none 0 0, .slice none 0 0] 35) (by simp) (cells_ones r) rfl ?_; intro w4 hx4 hc4; have hb4 : Below w3.heap.size w3 w4 := hc4.below (below_one w3 _) (by simp) (by simp); have HR4 := Lib.hid (HR3.out.below hb4); have HZ4 := Lib.hid (HZ3.out.chg (gs := []) (Chg.of_below hb4) (by simp)); have HB4 := Lib.hid (HB3.out.trans (hb4.mono HB3.out.size)); have HK4 := Lib.hid (HK3.out.step (hs := []) (Chg.of_below hb4) (by simp)); have HX4 := Lib.hid hx4; clear hx4 hc4 hb4 HR3 HZ3 HB3 HK3)
    refine (rEndH R s3 _ HR4.out).mono ?_
    rintro e w' ⟨rfl, rfl⟩
    cases hf : Pk.fin s3
    · have HNO : Hid (okMg ps = false) := by show _ = _; rw [HOK.out, hf, Bool.false_and]
      go_wp2_with (refine wpList_st 35 19 w.heap.size 0 35 #[.int .i64 0, .int .i64 0, .int .i64 0, .int .i64 0, .int .i64 0, .int .i64 0, .int .i64 0, .int .i64 0, .string ⟨#[]⟩, .int .i64 0, .int .u32 0, .slice none 0 0, .int .i64 0, .slice none 0 0, .slice none 0 0, .int .i64 0, .slice none 0 0, .slice none 0 0, .slice none 0 0] #[.int .i64 0, .int .i64 0, .int .i64 0, .int .i64 0, .int .i64 0, .int .i64 0, .int .i64 0, .int .i64 0, .string ⟨#[]⟩, .int .i64 0, .int .u32 0, .slice none 0 0, .int .i64 0, .slice none 0 0, .slice none 0 0, .int .i64 0, .slice none 0 0, .slice none 0 0, .slice none 0 0] #[.int .i64 0, .int .i64 0, .int .i64 0, .int .i64 0, .int .i64 0, .int .i64 0, .int .i64 0, .int .i64 0, .string ⟨#[]⟩, .int .i64 0, .int .u32 0, .slice none 0 0, .int .i64 0, .slice none 0 0, .slice none 0 0, .int .i64 0, .slice none 0 0, .slice none 0 0, .slice none 0 0] _ _ rfl rfl rfl rfl rfl (by kernel_rfl) rfl HZ4.out (by simp) zero_ones rfl ?_; intro wf hx hc)
      have HF : Hid (RetDm w ps (.returned (.tuple #[.agg #[.int .i64 0, .int .i64 0, .int .i64 0, .int .i64 0, .int .i64 0, .int .i64 0, .int .i64 0, .int .i64 0, .string ⟨#[]⟩, .int .i64 0, .int .u32 0, .slice none 0 0, .int .i64 0, .slice none 0 0, .slice none 0 0, .int .i64 0, .slice none 0 0, .slice none 0 0, .slice none 0 0], .int .i64 2])) wf) := .inl ⟨HNO.out, rfl, hc.below HB4.out HB4.out.size (by simp)⟩
      have hld := run_ldvM w.heap.size _ rfl hx.box
      refine bodyPost_ret (v := .tuple #[.agg #[.int .i64 0, .int .i64 0, .int .i64 0, .int .i64 0, .int .i64 0, .int .i64 0, .int .i64 0, .int .i64 0, .string ⟨#[]⟩, .int .i64 0, .int .u32 0, .slice none 0 0, .int .i64 0, .slice none 0 0, .slice none 0 0, .int .i64 0, .slice none 0 0, .slice none 0 0, .slice none 0 0], .int .i64 2]) (results_cell2 Try.results16 rfl rfl hld) rfl ?_
      exact HF.out
    · go_wp2_with (first | refine wpList_ldM _ _ _ rfl rfl rfl rfl HX4.out.box ?_ | (refine wpList_ung (by rfl) ?_; refine wpList_ldM _ _ _ rfl rfl rfl rfl HX4.out.box ?_))
      refine (msgSound_any r _ HK4.out.now).mono ?_
      rintro e w5 ⟨rfl, hb5⟩
      have HX5 := Lib.hid (HX4.out.chg (gs := []) (Chg.of_below hb5) (by simp))
      have HZ5 := Lib.hid (HZ4.out.chg (gs := []) (Chg.of_below hb5) (by simp))
      have HB5 := Lib.hid (HB4.out.trans (hb5.mono HB4.out.size))
      have HK5 := Lib.hid (HK4.out.step (hs := []) (Chg.of_below hb5) (by simp))
      clear hb5 HX4 HZ4 HB4 HK4 HR4
      cases hs : sndMg r.m
      · have HNO : Hid (okMg ps = false) := by show _ = _; rw [HOK.out, hf, hs, Bool.true_and]
        go_wp2_with (refine wpList_st 35 19 w.heap.size 0 35 #[.int .i64 0, .int .i64 0, .int .i64 0, .int .i64 0, .int .i64 0, .int .i64 0, .int .i64 0, .int .i64 0, .string ⟨#[]⟩, .int .i64 0, .int .u32 0, .slice none 0 0, .int .i64 0, .slice none 0 0, .slice none 0 0, .int .i64 0, .slice none 0 0, .slice none 0 0, .slice none 0 0] #[.int .i64 0, .int .i64 0, .int .i64 0, .int .i64 0, .int .i64 0, .int .i64 0, .int .i64 0, .int .i64 0, .string ⟨#[]⟩, .int .i64 0, .int .u32 0, .slice none 0 0, .int .i64 0, .slice none 0 0, .slice none 0 0, .int .i64 0, .slice none 0 0, .slice none 0 0, .slice none 0 0] #[.int .i64 0, .int .i64 0, .int .i64 0, .int .i64 0, .int .i64 0, .int .i64 0, .int .i64 0, .int .i64 0, .string ⟨#[]⟩, .int .i64 0, .int .u32 0, .slice none 0 0, .int .i64 0, .slice none 0 0, .slice none 0 0, .int .i64 0, .slice none 0 0, .slice none 0 0, .slice none 0 0] _ _ rfl rfl rfl rfl rfl (by kernel_rfl) rfl HZ5.out (by simp) zero_ones rfl ?_; intro wf hx hc)
        have HF : Hid (RetDm w ps (.returned (.tuple #[.agg #[.int .i64 0, .int .i64 0, .int .i64 0, .int .i64 0, .int .i64 0, .int .i64 0, .int .i64 0, .int .i64 0, .string ⟨#[]⟩, .int .i64 0, .int .u32 0, .slice none 0 0, .int .i64 0, .slice none 0 0, .slice none 0 0, .int .i64 0, .slice none 0 0, .slice none 0 0, .slice none 0 0], .int .i64 2])) wf) := .inl ⟨HNO.out, rfl, hc.below HB5.out HB5.out.size (by simp)⟩
        have hld := run_ldvM w.heap.size _ rfl hx.box
        refine bodyPost_ret (v := .tuple #[.agg #[.int .i64 0, .int .i64 0, .int .i64 0, .int .i64 0, .int .i64 0, .int .i64 0, .int .i64 0, .int .i64 0, .string ⟨#[]⟩, .int .i64 0, .int .u32 0, .slice none 0 0, .int .i64 0, .slice none 0 0, .slice none 0 0, .int .i64 0, .slice none 0 0, .slice none 0 0, .slice none 0 0], .int .i64 2]) (results_cell2 Try.results16 rfl rfl hld) rfl ?_
        exact HF.out
      · have HYE : Hid (okMg ps = true) := by show _ = _; rw [HOK.out, hf, hs, Bool.true_and]
        go_wp2_with (first | refine wpList_ldM _ _ _ rfl rfl rfl rfl HX5.out.box ?_ | (refine wpList_st 35 19 w.heap.size 0 35 r.cells #[.int .i64 0, .int .i64 0, .int .i64 0, .int .i64 0, .int .i64 0, .int .i64 0, .int .i64 0, .int .i64 0, .string ⟨#[]⟩, .int .i64 0, .int .u32 0, .slice none 0 0, .int .i64 0, .slice none 0 0, .slice none 0 0, .int .i64 0, .slice none 0 0, .slice none 0 0, .slice none 0 0] r.cells _ _ rfl rfl rfl rfl rfl (by kernel_rfl) rfl HZ5.out (by simp) (cells_ones r) rfl ?_; intro wf hx hc))
        have HF : Hid (RetDm w ps (.returned (.tuple #[.agg r.cells, .int .i64 0])) wf) := .inr ⟨HYE.out, r, HRM.out, rfl, (HK5.out.step hc (by simp; exact HW2.out)).low (Nat.le_of_lt HW2.out), hc.below HB5.out HB5.out.size (by simp)⟩
        have hld := run_ldvM w.heap.size _ rfl hx.box
        refine bodyPost_ret (v := .tuple #[.agg r.cells, .int .i64 0]) (results_cell2 Try.results16 rfl rfl hld) rfl ?_
        exact HF.out

theorem decMg_no (a : Option Addr) (cap l : Nat) (ps : List Nat) (w : World) (hl : ps.length = l) (hm : l ≤ 100000000) (h : SeenAt w a cap ps) (hno : okMg ps = false) :
    Calls Try.prog 16 #[.slice a l cap] w fun e w' => e = .returned (.tuple #[.agg #[.int .i64 0, .int .i64 0, .int .i64 0, .int .i64 0, .int .i64 0, .int .i64 0, .int .i64 0, .int .i64 0, .string ⟨#[]⟩, .int .i64 0, .int .u32 0, .slice none 0 0, .int .i64 0, .slice none 0 0, .slice none 0 0, .int .i64 0, .slice none 0 0, .slice none 0 0, .slice none 0 0], .int .i64 2]) ∧ Below w.heap.size w w' :=
  (decMg_any a cap l ps w hl hm h).mono fun e w' hx => by
    rcases hx with ⟨_, h1⟩ | ⟨h2, _⟩
    · exact h1
    · rw [hno] at h2; cases h2

theorem decMg_yes (a : Option Addr) (cap l : Nat) (ps : List Nat) (w : World) (hl : ps.length = l) (hm : l ≤ 100000000) (h : SeenAt w a cap ps) (hyes : okMg ps = true) :
    Calls Try.prog 16 #[.slice a l cap] w fun e w' => ∃ r : Rm, r.m = decMg ps ∧ e = .returned (.tuple #[.agg r.cells, .int .i64 0]) ∧ Kept w.heap.size w' (fun w2 => MsgAt w2 r) ∧ Below w.heap.size w w' :=
  (decMg_any a cap l ps w hl hm h).mono fun e w' hx => by
    rcases hx with ⟨h1, _⟩ | ⟨_, h2⟩
    · rw [hyes] at h1; cases h1
    · exact h2

end Go.Proofs.Ytggjpjpemgpeeaa
