/-
  The laws' fixed fact, of layer 12.
-/
import Derived.Test.YtggjpjpemgpeeaaWalksI1
import Derived.Lib.SlBytesConst
namespace Go.Proofs.Ytggjpjpemgpeeaa
open Go.RowKit

def am12 : Pm := ⟨2, -2, -1, 0, pe0, 0, [(3, [120])], [[107]], 0, [], [(1, 0)], []⟩

theorem am12_snd : sndMg am12 = true := by decide

theorem pm0_no : sndMg pm0 = false := by decide

theorem am12_wf : am12.Wf :=
  ⟨by constructor <;> decide, by constructor <;> decide, by constructor <;> decide, by constructor <;> decide, by constructor <;> decide, by constructor <;> decide, by simp [am12], pm0_wf.ent,
    by intro f hf; simp [am12] at hf; subst hf; exact ⟨by constructor <;> decide, by intro c hc; simp at hc; omega⟩, by intro k hk; simp [am12] at hk; subst hk; intro c hc; simp at hc; omega, by intro s hs; simp [am12] at hs; subst hs; constructor <;> (constructor <;> decide), by simp [am12]⟩

theorem am12_len : 20 < (encMg am12).length := by
  unfold encMg
  rw [List.length_append, be4_len]
  have : 17 ≤ (bodM am12).length := by decide +kernel
  omega

/-- The message where it lies. -/
def amR (b : Nat) : Rm := ⟨am12, [⟨3, some ⟨b, 0, none⟩, 1, [120]⟩], none, 0, some ⟨b + 1, 0, none⟩, 1, some ⟨b + 1 + 1, 0, none⟩, 1, none, 0, some ⟨b + 1 + 1 + 1, 0, none⟩, 1, none, 0, 0, 1, 1, 0, 1, 0⟩

theorem amR_at (w : World) : MsgAt ((((w.alloc (.cells #[.int .u8 120] 5 (1, 2))).alloc (.cells #[.int .i64 3, .slice (some ⟨w.heap.size, 0, none⟩) 1 1] 62)).alloc (.cells #[.string ⟨#[107]⟩] 9)).alloc (.cells #[.int .i64 1, .int .i64 0] 64)) (amR w.heap.size) := by
  have h1 : SeenAt ((((w.alloc (.cells #[.int .u8 120] 5 (1, 2))).alloc (.cells #[.int .i64 3, .slice (some ⟨w.heap.size, 0, none⟩) 1 1] 62)).alloc (.cells #[.string ⟨#[107]⟩] 9)).alloc (.cells #[.int .i64 1, .int .i64 0] 64)) (some ⟨w.heap.size, 0, none⟩) 1 [120] := (((seen_lit w [120] #[.int .u8 120] (1, 2) rfl (by intro c hc; simp at hc; omega) (by unfold maxLen; simp)).below (below_one _ _)).below (below_one _ _)).below (below_one _ _)
  have h2 : Box ((((w.alloc (.cells #[.int .u8 120] 5 (1, 2))).alloc (.cells #[.int .i64 3, .slice (some ⟨w.heap.size, 0, none⟩) 1 1] 62)).alloc (.cells #[.string ⟨#[107]⟩] 9)).alloc (.cells #[.int .i64 1, .int .i64 0] 64)) (w.heap.size + 1) #[.int .i64 3, .slice (some ⟨w.heap.size, 0, none⟩) 1 1] := ((box_new (w.alloc (.cells #[.int .u8 120] 5 (1, 2))) _ _ _ (by simp)).below (below_one _ _)).below (below_one _ _)
  have h3 : Box ((((w.alloc (.cells #[.int .u8 120] 5 (1, 2))).alloc (.cells #[.int .i64 3, .slice (some ⟨w.heap.size, 0, none⟩) 1 1] 62)).alloc (.cells #[.string ⟨#[107]⟩] 9)).alloc (.cells #[.int .i64 1, .int .i64 0] 64)) (w.heap.size + 1 + 1) #[.string ⟨#[107]⟩] := (box_new ((w.alloc (.cells #[.int .u8 120] 5 (1, 2))).alloc (.cells #[.int .i64 3, .slice (some ⟨w.heap.size, 0, none⟩) 1 1] 62)) _ _ _ (by simp)).below (below_one _ _)
  have h4 : Box ((((w.alloc (.cells #[.int .u8 120] 5 (1, 2))).alloc (.cells #[.int .i64 3, .slice (some ⟨w.heap.size, 0, none⟩) 1 1] 62)).alloc (.cells #[.string ⟨#[107]⟩] 9)).alloc (.cells #[.int .i64 1, .int .i64 0] 64)) (w.heap.size + 1 + 1 + 1) #[.int .i64 1, .int .i64 0] := box_new (((w.alloc (.cells #[.int .u8 120] 5 (1, 2))).alloc (.cells #[.int .i64 3, .slice (some ⟨w.heap.size, 0, none⟩) 1 1] 62)).alloc (.cells #[.string ⟨#[107]⟩] 9)) _ _ _ (by simp)
  refine ⟨SeenAt.nil (Nat.zero_le _), ⟨Nat.le_refl _, by show 1 ≤ maxLen; unfold maxLen; omega, fun i hi => ?_, by intro f hf; simp [amR] at hf; subst hf; show (Lit.int .i64 3).wf = true; decide⟩, ⟨Nat.le_refl _, by show 1 ≤ maxLen; unfold maxLen; omega, fun i hi => ?_⟩, IntsAt.nil (Nat.zero_le _), ⟨Nat.le_refl _, by show 1 ≤ maxLen; unfold maxLen; omega, fun i hi => ?_⟩, EnsAt.nil (Nat.zero_le _), rfl, rfl, rfl, rfl, rfl, rfl, rfl, am12_wf⟩
  · obtain rfl : i = 0 := by simp [amR] at hi; omega
    exact ⟨w.heap.size + 1, 0, rfl, h2 0 _ rfl, h2 1 _ rfl, h1⟩
  · obtain rfl : i = 0 := by simp [amR, am12] at hi; omega
    exact ⟨w.heap.size + 1 + 1, 0, rfl, h3 0 _ rfl⟩
  · obtain rfl : i = 0 := by simp [amR, am12] at hi; omega
    exact ⟨w.heap.size + 1 + 1 + 1, 0, rfl, h4 0 _ rfl, h4 1 _ rfl⟩

/-- The bytes of a sound message are read again. -/
theorem dec_back (a : Option Addr) (c l : Nat) (m : Pm) (x : World) (hw : m.Wf) (hs : sndMg m = true) (hl : (encMg m).length = l) (h : SeenAt x a c (encMg m)) :
    Calls Try.prog 16 #[.slice a l c] x fun e w' => ∃ r : Rm, r.m = m ∧ e = .returned (.tuple #[.agg r.cells, .int .i64 0]) ∧ MsgAt w' r ∧ Below x.heap.size x w' :=
  (decMg_yes a c l (encMg m) x hl (by have := encMg_len (sndMg_is hs); omega) h (okMg_yes hw hs).1).mono fun e w' h' => by
    obtain ⟨r, h1, h2, h3, h4⟩ := h'
    rw [(okMg_yes hw hs).2] at h1
    exact ⟨r, h1, h2, h3.now, h4⟩

set_option maxRecDepth 100000 in
set_option maxHeartbeats 4000000 in
theorem awake12 (w : World) :
    Calls Try.prog 12 #[] w fun e w' => e = .returned (.bool true) ∧ Below w.heap.size w w' := by
  have kc := fun (w : World) (C : Array Value) (n c : Nat) => Lib.run_convert_bytes_const (P := Try.prog) w 23 5 C n c Try.underlying23 Try.underlying5
  have HM0 := Lib.hid (amR_at w)
  have HB4 : Hid (Below w.heap.size w ((((w.alloc (.cells #[.int .u8 120] 5 (1, 2))).alloc (.cells #[.int .i64 3, .slice (some ⟨w.heap.size, 0, none⟩) 1 1] 62)).alloc (.cells #[.string ⟨#[107]⟩] 9)).alloc (.cells #[.int .i64 1, .int .i64 0] 64))) := (((below_one w _).alloc (by simp) _).alloc (by simp; omega) _).alloc (by simp; omega) _
  have HZ : Hid (Bx (((((w.alloc (.cells #[.int .u8 120] 5 (1, 2))).alloc (.cells #[.int .i64 3, .slice (some ⟨w.heap.size, 0, none⟩) 1 1] 62)).alloc (.cells #[.string ⟨#[107]⟩] 9)).alloc (.cells #[.int .i64 1, .int .i64 0] 64)).alloc (.cells #[.int .i64 0, .int .i64 0, .int .i64 0, .int .i64 0, .int .i64 0, .int .i64 0, .int .i64 0, .int .i64 0, .string ⟨#[]⟩, .int .i64 0, .int .u32 0, .slice none 0 0, .int .i64 0, .slice none 0 0, .slice none 0 0, .int .i64 0, .slice none 0 0, .slice none 0 0, .slice none 0 0] 35)) (w.heap.size + 1 + 1 + 1 + 1) 35 #[.int .i64 0, .int .i64 0, .int .i64 0, .int .i64 0, .int .i64 0, .int .i64 0, .int .i64 0, .int .i64 0, .string ⟨#[]⟩, .int .i64 0, .int .u32 0, .slice none 0 0, .int .i64 0, .slice none 0 0, .slice none 0 0, .int .i64 0, .slice none 0 0, .slice none 0 0, .slice none 0 0]) := by
    have h := bx_new ((((w.alloc (.cells #[.int .u8 120] 5 (1, 2))).alloc (.cells #[.int .i64 3, .slice (some ⟨w.heap.size, 0, none⟩) 1 1] 62)).alloc (.cells #[.string ⟨#[107]⟩] 9)).alloc (.cells #[.int .i64 1, .int .i64 0] 64)) #[.int .i64 0, .int .i64 0, .int .i64 0, .int .i64 0, .int .i64 0, .int .i64 0, .int .i64 0, .int .i64 0, .string ⟨#[]⟩, .int .i64 0, .int .u32 0, .slice none 0 0, .int .i64 0, .slice none 0 0, .slice none 0 0, .int .i64 0, .slice none 0 0, .slice none 0 0, .slice none 0 0] 35
    rw [show ((((w.alloc (.cells #[.int .u8 120] 5 (1, 2))).alloc (.cells #[.int .i64 3, .slice (some ⟨w.heap.size, 0, none⟩) 1 1] 62)).alloc (.cells #[.string ⟨#[107]⟩] 9)).alloc (.cells #[.int .i64 1, .int .i64 0] 64)).heap.size = (w.heap.size + 1 + 1 + 1 + 1) by simp] at h
    exact h
  have HW4 : Hid (((((w.alloc (.cells #[.int .u8 120] 5 (1, 2))).alloc (.cells #[.int .i64 3, .slice (some ⟨w.heap.size, 0, none⟩) 1 1] 62)).alloc (.cells #[.string ⟨#[107]⟩] 9)).alloc (.cells #[.int .i64 1, .int .i64 0] 64)).heap.size = (w.heap.size + 1 + 1 + 1 + 1)) := by show _ = _; simp
  have HLEN := Lib.hid am12_len
  have HAM : Hid ((amR w.heap.size).m = am12) := rfl
  go_enter Try.func12, Try.ntmps12
  go_wp2_with (first | (refine wpList_st 35 19 (w.heap.size + 1 + 1 + 1 + 1) 0 35 (amR w.heap.size).cells #[.int .i64 0, .int .i64 0, .int .i64 0, .int .i64 0, .int .i64 0, .int .i64 0, .int .i64 0, .int .i64 0, .string ⟨#[]⟩, .int .i64 0, .int .u32 0, .slice none 0 0, .int .i64 0, .slice none 0 0, .slice none 0 0, .int .i64 0, .slice none 0 0, .slice none 0 0, .slice none 0 0] (amR w.heap.size).cells _ _ rfl rfl rfl rfl rfl (by kernel_rfl) rfl HZ.out (by simp) (cells_ones _) rfl ?_; intro w5 hx5 hc5; have hb45 : Below ((((w.alloc (.cells #[.int .u8 120] 5 (1, 2))).alloc (.cells #[.int .i64 3, .slice (some ⟨w.heap.size, 0, none⟩) 1 1] 62)).alloc (.cells #[.string ⟨#[107]⟩] 9)).alloc (.cells #[.int .i64 1, .int .i64 0] 64)).heap.size ((((w.alloc (.cells #[.int .u8 120] 5 (1, 2))).alloc (.cells #[.int .i64 3, .slice (some ⟨w.heap.size, 0, none⟩) 1 1] 62)).alloc (.cells #[.string ⟨#[107]⟩] 9)).alloc (.cells #[.int .i64 1, .int .i64 0] 64)) w5 := hc5.below (below_one ((((w.alloc (.cells #[.int .u8 120] 5 (1, 2))).alloc (.cells #[.int .i64 3, .slice (some ⟨w.heap.size, 0, none⟩) 1 1] 62)).alloc (.cells #[.string ⟨#[107]⟩] 9)).alloc (.cells #[.int .i64 1, .int .i64 0] 64)) _) (by simp) (by simp); have HM5 := Lib.hid (HM0.out.below hb45); have E5 : Hid (Ext w w5) := HB4.out.trans (hb45.mono HB4.out.size); have HX5 := Lib.hid hx5.box; clear hb45 hx5 hc5 HM0 HB4 HZ HW4) | first | refine wpList_ldM _ _ _ rfl rfl rfl rfl HX5.out ?_ | (refine wpList_ung (by rfl) ?_; refine wpList_ldM _ _ _ rfl rfl rfl rfl HX5.out ?_))
  generalize amR w.heap.size = r at *
  have HYES : Hid (sndMg r.m = true) := by show _ = _; rw [HAM.out]; exact am12_snd
  have HSM : Hid (SndMg r.m) := sndMg_is HYES.out
  have hlen : 20 < (encMg r.m).length := by rw [HAM.out]; exact HLEN.out
  have hlen2 : (encMg r.m).length ≤ 1600005 := (encMg_len HSM.out).2
  refine (encMsg_yes r _ HM5.out HYES.out).mono ?_
  rintro e w6 ⟨g6, c6, rfl, ho6, hb6⟩
  have HX6 := Lib.hid (HX5.out.below hb6)
  have HM6 := Lib.hid (HM5.out.below hb6)
  have E6 := Lib.hid (E5.out.trans hb6)
  have HS6 := Lib.hid ho6.seenAt
  clear ho6 hb6 HX5 HM5 E5
  obtain ⟨q, hq⟩ : ∃ q, (encMg r.m).length = q := ⟨_, rfl⟩
  rw [hq] at hlen hlen2 ⊢
  have HQ := Lib.hid hq
  clear hq
  have hd20 : decide ((20 : Int) < (q : Int)) = true := by simp; omega
  go_wp2_with fail
  refine (dec_back _ _ _ r.m _ HM6.out.wf HYES.out HQ.out HS6.out).mono ?_
  rintro e w7 ⟨r', hrm, rfl, hm7, hb7⟩
  have HRM := Lib.hid hrm
  have HX7 := Lib.hid (HX6.out.below hb7)
  have HM7 := Lib.hid (HM6.out.below hb7)
  have E7 := Lib.hid (E6.out.trans hb7)
  have HN7 := Lib.hid hm7
  clear hrm hm7 hb7 HX6 HM6 E6 HS6
  go_wp2_with (first | (refine wpList_st 35 19 w7.heap.size 0 35 r'.cells #[.int .i64 0, .int .i64 0, .int .i64 0, .int .i64 0, .int .i64 0, .int .i64 0, .int .i64 0, .int .i64 0, .string ⟨#[]⟩, .int .i64 0, .int .u32 0, .slice none 0 0, .int .i64 0, .slice none 0 0, .slice none 0 0, .int .i64 0, .slice none 0 0, .slice none 0 0, .slice none 0 0] r'.cells _ _ rfl rfl rfl rfl rfl (by kernel_rfl) rfl (bx_new w7 #[.int .i64 0, .int .i64 0, .int .i64 0, .int .i64 0, .int .i64 0, .int .i64 0, .int .i64 0, .int .i64 0, .string ⟨#[]⟩, .int .i64 0, .int .u32 0, .slice none 0 0, .int .i64 0, .slice none 0 0, .slice none 0 0, .int .i64 0, .slice none 0 0, .slice none 0 0, .slice none 0 0] 35) (by simp) (cells_ones _) rfl ?_; intro w8 hx8 hc8; have hb8 : Below w7.heap.size w7 w8 := hc8.below (below_one w7 _) (by simp) (by simp); have HM8 := Lib.hid (HM7.out.below hb8); have HN8 := Lib.hid (HN7.out.below hb8); have HX8 := Lib.hid (HX7.out.below hb8); have E8 := Lib.hid (E7.out.trans hb8); have HY8 := Lib.hid hx8.box; clear hb8 hx8 hc8 HM7 HN7 HX7 E7) | first | refine wpList_ldM _ _ _ rfl rfl rfl rfl HX8.out ?_ | (refine wpList_ung (by rfl) ?_; refine wpList_ldM _ _ _ rfl rfl rfl rfl HX8.out ?_) | refine wpList_ldM _ _ _ rfl rfl rfl rfl HY8.out ?_ | (refine wpList_ung (by rfl) ?_; refine wpList_ldM _ _ _ rfl rfl rfl rfl HY8.out ?_))
  refine (sameMsg_self r' r _ HN8.out HM8.out HRM.out (by rw [HRM.out]; exact HSM.out)).mono ?_
  rintro e w9 ⟨rfl, hb9⟩
  have HM9 := Lib.hid (HM8.out.below hb9)
  have HN9 := Lib.hid (HN8.out.below hb9)
  have HX9 := Lib.hid (HX8.out.below hb9)
  have HY9 := Lib.hid (HY8.out.below hb9)
  have E9 := Lib.hid (E8.out.trans hb9)
  clear hb9 HM8 HN8 HX8 HY8 E8
  go_wp2_with (first | refine wpList_ldM _ _ _ rfl rfl rfl rfl HX9.out ?_ | (refine wpList_ung (by rfl) ?_; refine wpList_ldM _ _ _ rfl rfl rfl rfl HX9.out ?_) | refine wpList_ldM _ _ _ rfl rfl rfl rfl HY9.out ?_ | (refine wpList_ung (by rfl) ?_; refine wpList_ldM _ _ _ rfl rfl rfl rfl HY9.out ?_))
  refine (msgSound_any r _ HM9.out).mono ?_
  rw [HYES.out]
  rintro e w10 ⟨rfl, hb9⟩
  have HM10 := Lib.hid (HM9.out.below hb9)
  have HN10 := Lib.hid (HN9.out.below hb9)
  have HX10 := Lib.hid (HX9.out.below hb9)
  have HY10 := Lib.hid (HY9.out.below hb9)
  have E10 := Lib.hid (E9.out.trans hb9)
  clear hb9 HM9 HN9 HX9 HY9 E9
  go_wp2_with fail
  refine (msgSound_any rm0 _ (rm0_at _)).mono ?_
  rw [show sndMg rm0.m = false from pm0_no]
  rintro e w11 ⟨rfl, hb9⟩
  have HM11 := Lib.hid (HM10.out.below hb9)
  have HN11 := Lib.hid (HN10.out.below hb9)
  have HX11 := Lib.hid (HX10.out.below hb9)
  have HY11 := Lib.hid (HY10.out.below hb9)
  have E11 := Lib.hid (E10.out.trans hb9)
  clear hb9 HM10 HN10 HX10 HY10 E10
  go_wp2_with (first | refine wpList_ldM _ _ _ rfl rfl rfl rfl HX11.out ?_ | (refine wpList_ung (by rfl) ?_; refine wpList_ldM _ _ _ rfl rfl rfl rfl HX11.out ?_) | refine wpList_ldM _ _ _ rfl rfl rfl rfl HY11.out ?_ | (refine wpList_ung (by rfl) ?_; refine wpList_ldM _ _ _ rfl rfl rfl rfl HY11.out ?_))
  refine (msgSame_any r r' _ HM11.out HN11.out).mono ?_
  rw [show smB r.m r'.m = true by unfold smB; rw [HRM.out, HYES.out]; simp]
  rintro e w12 ⟨rfl, hb9⟩
  have E12 := Lib.hid (E11.out.trans hb9)
  clear hb9
  go_wp2
  go_ret
  exact ⟨rfl, E12.out⟩

end Go.Proofs.Ytggjpjpemgpeeaa
