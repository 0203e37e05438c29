/-
  The walk of the law MsgDecodes.
-/
import Derived.Test.YtggjpjpemgpeeaaAwake12
import Derived.Test.YtggjpjpemgpeeaaWalksH5
import Derived.Test.YtggjpjpemgpeeaaExt
import Derived.Deep.DeepCutAuto
namespace Go.Proofs.Ytggjpjpemgpeeaa
open Go.RowKit



/-- The first bytes, 3000 at most. -/
def Clamped12 (w : World) (a : Option Addr) (c : Nat) (v : Value) : Prop := ∃ (l : Nat) (qs : List Nat), v = .slice a l c ∧ l ≤ 3000 ∧ qs.length = l ∧ SeenAt w a c qs

theorem sameMsg_zero (x : World) : Calls Try.prog 18 #[.agg #[.int .i64 0, .int .i64 0, .int .i64 0, .int .i64 0, .int .i64 0, .int .i64 0, .int .i64 0, .int .i64 0, .string ⟨#[]⟩, .int .i64 0, .int .u32 0, .slice none 0 0, .int .i64 0, .slice none 0 0, .slice none 0 0, .int .i64 0, .slice none 0 0, .slice none 0 0, .slice none 0 0], .agg #[.int .i64 0, .int .i64 0, .int .i64 0, .int .i64 0, .int .i64 0, .int .i64 0, .int .i64 0, .int .i64 0, .string ⟨#[]⟩, .int .i64 0, .int .u32 0, .slice none 0 0, .int .i64 0, .slice none 0 0, .slice none 0 0, .int .i64 0, .slice none 0 0, .slice none 0 0, .slice none 0 0]] x fun e w' => e = .returned (.bool true) ∧ Below x.heap.size x w' :=
  sameMsg_self rm0 rm0 x (rm0_at x) (rm0_at x) rfl sndMg0

set_option maxRecDepth 100000 in
set_option maxHeartbeats 4000000 in
theorem msgDecodes_walk (a0 : Option Addr) (len0 cap0 : Nat) (m0 : List Nat) (w : World) (w0 : m0.length = len0 ∧ SeenAt w a0 cap0 m0) :
    Calls Try.prog 4 #[.slice a0 len0 cap0] w fun e w' => e = .returned (.bool true) ∧ Below w.heap.size w w' := by
  have h0 : len0 ≤ maxLen := by have := w0.1; have := w0.2.le; have := w0.2.max; omega
  have hc0 : len0 ≤ cap0 := by have := w0.1; have := w0.2.le; omega
  have hm0 : cap0 ≤ maxLen := w0.2.max
  unfold maxLen at h0 hm0
  have H0 := Lib.hid w0.1
  have S0 := Lib.hid w0.2
  clear w0
  go_enter Try.func4, Try.ntmps4
  go_upto_if 7 with fail
  go_cut [0, 7] (fun s _ wx => Clamped12 w a0 cap0 s ∧ wx = w)
  case first =>
    by_cases h500 : 3000 < len0
    · have d1 : decide ((3000 : Int) < (len0 : Int)) = true := by simp; omega
      obtain ⟨b, off, e, _⟩ := S0.out.cell 0 (by rw [H0.out]; omega)
      subst e
      have hcc : 3000 ≤ cap0 := by omega
      have HTK := Lib.hid (S0.out.take 3000)
      have HTL : Hid ((m0.take 3000).length = 3000) := by show _ = _; rw [List.length_take, H0.out]; omega
      go_wp2_with fail
      go_meet
      exact ⟨⟨3000, m0.take 3000, rfl, by omega, HTL.out, HTK.out⟩, rfl⟩
    · have d1 : decide ((3000 : Int) < (len0 : Int)) = false := by simp; omega
      go_wp2_with fail
      go_meet
      exact ⟨⟨len0, m0, rfl, by omega, H0.out, S0.out⟩, rfl⟩
  case rest =>
  obtain ⟨⟨l, ps, rfl, hl5, hl, hs⟩, hw⟩ := hcut
  obtain rfl := hw.symm
  have HL := Lib.hid hl
  have HS := Lib.hid hs
  clear hl hs H0 S0 h0 hc0
  cases hdec : okMg ps with
  | false =>
    have HN := Lib.hid hdec
    clear hdec
    go_wp2_with fail
    refine (decMg_no _ _ _ ps _ HL.out (by omega) HS.out HN.out).mono ?_
    rintro e w1 ⟨rfl, hb⟩
    have E1 : Hid (Ext w w1) := hb
    clear hb
    go_wp2_with (refine wpList_st 35 19 w1.heap.size 0 35 #[.int .i64 0, .int .i64 0, .int .i64 0, .int .i64 0, .int .i64 0, .int .i64 0, .int .i64 0, .int .i64 0, .string ⟨#[]⟩, .int .i64 0, .int .u32 0, .slice none 0 0, .int .i64 0, .slice none 0 0, .slice none 0 0, .int .i64 0, .slice none 0 0, .slice none 0 0, .slice none 0 0] #[.int .i64 0, .int .i64 0, .int .i64 0, .int .i64 0, .int .i64 0, .int .i64 0, .int .i64 0, .int .i64 0, .string ⟨#[]⟩, .int .i64 0, .int .u32 0, .slice none 0 0, .int .i64 0, .slice none 0 0, .slice none 0 0, .int .i64 0, .slice none 0 0, .slice none 0 0, .slice none 0 0] #[.int .i64 0, .int .i64 0, .int .i64 0, .int .i64 0, .int .i64 0, .int .i64 0, .int .i64 0, .int .i64 0, .string ⟨#[]⟩, .int .i64 0, .int .u32 0, .slice none 0 0, .int .i64 0, .slice none 0 0, .slice none 0 0, .int .i64 0, .slice none 0 0, .slice none 0 0, .slice none 0 0] _ _ rfl rfl rfl rfl rfl (by kernel_rfl) rfl (bx_new w1 #[.int .i64 0, .int .i64 0, .int .i64 0, .int .i64 0, .int .i64 0, .int .i64 0, .int .i64 0, .int .i64 0, .string ⟨#[]⟩, .int .i64 0, .int .u32 0, .slice none 0 0, .int .i64 0, .slice none 0 0, .slice none 0 0, .int .i64 0, .slice none 0 0, .slice none 0 0, .slice none 0 0] 35) (by simp) zero_ones rfl ?_; intro w2 hx hc; have hb : Below w1.heap.size w1 w2 := hc.below (below_one w1 _) (by simp) (by simp); have HX2 := Lib.hid hx.box; have E2 := Lib.hid (E1.out.trans hb); clear hb hx hc E1)
    refine (awake12 _).mono ?_
    rintro e w3 ⟨rfl, hb⟩
    have E3 := Lib.hid (E2.out.trans hb)
    have HX3 := Lib.hid (HX2.out.below hb)
    clear hb E2 HX2
    go_wp2_with (first | refine wpList_ldM _ _ _ rfl rfl rfl rfl HX3.out ?_ | (refine wpList_ung (by rfl) ?_; refine wpList_ldM _ _ _ rfl rfl rfl rfl HX3.out ?_))
    refine (sameMsg_zero _).mono ?_
    rintro e w4 ⟨rfl, hb⟩
    have E4 := Lib.hid (E3.out.trans hb)
    clear hb E3 
    go_wp2
    go_ret
    exact ⟨rfl, E4.out⟩
  | true =>
    have HY := Lib.hid hdec
    clear hdec
    have HFF : Hid (((strB ps).toList == (strB ps).toList) = true) := by show _ = _; simp
    have ST := Lib.hid (fun (w' : World) x c (h : SeenAt w' x c ps) => str_at h HL.out)
    have HIS := Lib.hid (okMg_is HS.out.byte (by rw [HL.out]; omega) HY.out)
    go_wp2_with fail
    refine (decMg_yes _ _ _ ps _ HL.out (by omega) HS.out HY.out).mono ?_
    rintro e w1 ⟨r, hrm, rfl, hk, hb⟩
    rw [← hrm] at HIS
    have HM1 := Lib.hid hk.now
    have E1 : Hid (Ext w w1) := hb
    have HO1 := Lib.hid (HS.out.below hb)
    clear hb hk hrm HS
    have HEN : Hid (encMg r.m = ps) := HIS.out.1
    have HSN : Hid (sndMg r.m = true) := HIS.out.2.2
    have HSM := Lib.hid (sndMg_is HSN.out)
    clear HIS
    generalize strB ps = sr at *
    go_wp2_with (refine wpList_st 35 19 w1.heap.size 0 35 r.cells #[.int .i64 0, .int .i64 0, .int .i64 0, .int .i64 0, .int .i64 0, .int .i64 0, .int .i64 0, .int .i64 0, .string ⟨#[]⟩, .int .i64 0, .int .u32 0, .slice none 0 0, .int .i64 0, .slice none 0 0, .slice none 0 0, .int .i64 0, .slice none 0 0, .slice none 0 0, .slice none 0 0] r.cells _ _ rfl rfl rfl rfl rfl (by kernel_rfl) rfl (bx_new w1 #[.int .i64 0, .int .i64 0, .int .i64 0, .int .i64 0, .int .i64 0, .int .i64 0, .int .i64 0, .int .i64 0, .string ⟨#[]⟩, .int .i64 0, .int .u32 0, .slice none 0 0, .int .i64 0, .slice none 0 0, .slice none 0 0, .int .i64 0, .slice none 0 0, .slice none 0 0, .slice none 0 0] 35) (by simp) (cells_ones _) rfl ?_; intro w2 hx hc; have hb : Below w1.heap.size w1 w2 := hc.below (below_one w1 _) (by simp) (by simp); have HX2 := Lib.hid hx.box; have E2 := Lib.hid (E1.out.trans hb); have HM2 := Lib.hid (HM1.out.below hb); have HO2 := Lib.hid (HO1.out.below hb); clear hb hx hc E1 HM1 HO1)
    refine wp_region_ext (by kernel_rfl) ?_
    have hb := Below.drew (Below.refl w2.heap.size w2)
    have E3 := Lib.hid (E2.out.trans hb)
    have HX3 := Lib.hid (HX2.out.below hb)
    have HM3 := Lib.hid (HM2.out.below hb)
    have HO3 := Lib.hid (HO2.out.below hb)
    clear hb E2 HX2 HM2 HO2
    generalize w2.drew = w3 at *
    refine wpAnyH_one (i := 0) rfl (by kernel_rfl) (by rfl) (fun K hK => ?_)
    go_simp
    go_at_call 12
    refine (awake12 _).mono ?_
    rintro e w4 ⟨rfl, hb4⟩
    have hb := hb4
    have E4 := Lib.hid (E3.out.trans hb)
    have HX4 := Lib.hid (HX3.out.below hb)
    have HM4 := Lib.hid (HM3.out.below hb)
    have HO4 := Lib.hid (HO3.out.below hb)
    clear hb E3 HX3 HM3 HO3
    refine hK.out _ _ hb4 ?_
    clear hK K
    clear hb4
    refine wpAnyH_tk (i := 1) 28 (v := ?_) rfl rfl (by kernel_rfl) (by kernel_rfl) (by kernel_rfl) (by rfl) (fun wq hwq => ?_) ?_
    rotate_left
    · (go_simp <;> with_reducible rfl)
    simp only [List.setIfInBounds_toArray, List.set_cons_zero, List.set_cons_succ]
    refine wpAnyH_tk (i := 2) 29 (v := .agg r.cells) rfl rfl (by kernel_rfl) (by kernel_rfl) (by kernel_rfl) (by rfl) (fun wq hwq => exec_ldM _ _ _ rfl rfl rfl ((HX4.out).below hwq)) ?_
    simp only [List.setIfInBounds_toArray, List.set_cons_zero, List.set_cons_succ]
    refine wpAnyH_one (i := 3) rfl (by kernel_rfl) (by rfl) (fun K hK => ?_)
    go_simp
    refine (refMsg_any r _ HM4.out).mono ?_
    rw [HSN.out]
    rintro e w5 ⟨rfl, hb5⟩
    have hb := hb5
    have E5 := Lib.hid (E4.out.trans hb)
    have HX5 := Lib.hid (HX4.out.below hb)
    have HM5 := Lib.hid (HM4.out.below hb)
    have HO5 := Lib.hid (HO4.out.below hb)
    clear hb E4 HX4 HM4 HO4
    refine hK.out _ _ hb5 ?_
    clear hK K
    clear hb5
    refine wpAnyH_tk (i := 4) 31 (v := ?_) rfl rfl (by kernel_rfl) (by kernel_rfl) (by kernel_rfl) (by rfl) (fun wq hwq => ?_) ?_
    rotate_left
    · (go_simp <;> with_reducible rfl)
    simp only [List.setIfInBounds_toArray, List.set_cons_zero, List.set_cons_succ]
    refine wpAnyH_tk (i := 5) 32 (v := ?_) rfl rfl (by kernel_rfl) (by kernel_rfl) (by kernel_rfl) (by rfl) (fun wq hwq => ?_) ?_
    rotate_left
    · (go_simp <;> with_reducible rfl)
    simp only [List.setIfInBounds_toArray, List.set_cons_zero, List.set_cons_succ]
    refine wpAnyH_tk (i := 6) 33 (v := .agg r.cells) rfl rfl (by kernel_rfl) (by kernel_rfl) (by kernel_rfl) (by rfl) (fun wq hwq => exec_ldM _ _ _ rfl rfl rfl ((HX5.out).below hwq)) ?_
    simp only [List.setIfInBounds_toArray, List.set_cons_zero, List.set_cons_succ]
    refine wpAnyH_tk (i := 9) 36 (v := ?_) rfl rfl (by kernel_rfl) (by kernel_rfl) (by kernel_rfl) (by rfl) (fun wq hwq => ?_) ?_
    rotate_left
    · (go_simp <;> with_reducible rfl)
    simp only [List.setIfInBounds_toArray, List.set_cons_zero, List.set_cons_succ]
    refine wpAnyH_tk (i := 10) 37 (v := ?_) rfl rfl (by kernel_rfl) (by kernel_rfl) (by kernel_rfl) (by rfl) (fun wq hwq => ?_) ?_
    rotate_left
    · (have hx := ST.out wq _ _ (HO5.out.below hwq); go_simp <;> with_reducible rfl)
    simp only [List.setIfInBounds_toArray, List.set_cons_zero, List.set_cons_succ]
    refine wpAnyH_one (i := 7) rfl (by kernel_rfl) (by rfl) (fun K hK => ?_)
    go_simp
    refine (message_own r _ HM5.out HSM.out).mono ?_
    rw [HEN.out]
    rintro e w6 ⟨g6, c6, rfl, ho6, hb6⟩
    have E6 := Lib.hid (E5.out.trans hb6)
    have HO6 := Lib.hid ho6.seenAt
    clear E5 HM5 HO5 HX5 ho6
    rw [HL.out]
    refine hK.out _ _ hb6 ?_
    clear hK K
    clear hb6
    refine wpAnyH_tk (i := 8) 35 (v := ?_) rfl rfl (by kernel_rfl) (by kernel_rfl) (by kernel_rfl) (by rfl) (fun wq hwq => ?_) ?_
    rotate_left
    · (have hx := ST.out wq _ _ (HO6.out.below hwq); go_simp <;> with_reducible rfl)
    simp only [List.setIfInBounds_toArray, List.set_cons_zero, List.set_cons_succ]
    refine wpAnyH_tk (i := 11) 38 (v := ?_) rfl rfl (by kernel_rfl) (by kernel_rfl) (by kernel_rfl) (by rfl) (fun wq hwq => ?_) ?_
    rotate_left
    · (have hx := HFF.out; go_simp <;> with_reducible rfl)
    simp only [List.setIfInBounds_toArray, List.set_cons_zero, List.set_cons_succ]
    refine wpAnyH_tk (i := 12) 39 (v := ?_) rfl rfl (by kernel_rfl) (by kernel_rfl) (by kernel_rfl) (by rfl) (fun wq hwq => ?_) ?_
    rotate_left
    · (go_simp <;> with_reducible rfl)
    simp only [List.setIfInBounds_toArray, List.set_cons_zero, List.set_cons_succ]
    refine wpAnyH_tk (i := 13) 2 (v := ?_) rfl rfl (by kernel_rfl) (by kernel_rfl) (by kernel_rfl) (by rfl) (fun wq hwq => ?_) ?_
    rotate_left
    · (go_simp <;> with_reducible rfl)
    simp only [List.setIfInBounds_toArray, List.set_cons_zero, List.set_cons_succ]
    refine wpAnyH_done (by kernel_rfl) ?_ _
    refine NoPanic.normal ?_
    go_wp2
    go_ret
    exact ⟨rfl, E6.out⟩

end Go.Proofs.Ytggjpjpemgpeeaa
