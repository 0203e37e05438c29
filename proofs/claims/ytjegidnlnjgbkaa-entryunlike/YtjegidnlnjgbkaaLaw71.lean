/-
  The walk of the law EntryEncodes.
-/
import Derived.Test.YtjegidnlnjgbkaaAwake7
import Derived.Test.YtjegidnlnjgbkaaExt
namespace Go.Proofs.Ytjegidnlnjgbkaa
open Go.RowKit



/-- A sound record's bytes are read again. -/
theorem decode_back (a : Option Addr) (c l lm le : Nat) (r : Pr) (x : World) (hw : r.Wf) (hs : sndR r = true) (hl : (encR r).length = l) (hlm : r.mem.length = lm) (hle : r.ents.length = le) (h : SeenAt x a c (encR r)) :
    Calls Try.prog 16 #[.slice a l c] x fun e w' => ∃ ma mc ea ec, e = .returned (.tuple #[.agg #[.int .i64 r.kind, .int .i64 r.epoch, .slice ma lm mc, .int .i64 r.pos, .int .i64 r.last, .slice ea le ec], .int .i64 0]) ∧ RecAt w' ma mc ea ec r ∧ Below x.heap.size x w' :=
  (decode_yes a c l (encR r) x hl (by have := encR_len r hs; omega) h (dec_yes r hw hs).1).mono fun e w' h' => by
    rw [(dec_yes r hw hs).2] at h'
    obtain ⟨ma, mc, ea, ec, he, hk, hb⟩ := h'
    rw [hlm, hle] at he
    exact ⟨ma, mc, ea, ec, he, hk [] w' (Chg.of_below (Below.refl _ _)) (by simp), hb⟩

/-- A record is the same as itself. -/
theorem sameRec_self (ma ea ma' ea' : Option Addr) (mc ec mc' ec' lm le : Nat) (r : Pr) (x : World) (h : RecAt x ma mc ea ec r) (h' : RecAt x ma' mc' ea' ec' r) (hlm : r.mem.length = lm) (hle : r.ents.length = le) (hs : Small r) :
    Calls Try.prog 18 #[.agg #[.int .i64 r.kind, .int .i64 r.epoch, .slice ma lm mc, .int .i64 r.pos, .int .i64 r.last, .slice ea le ec], .agg #[.int .i64 r.kind, .int .i64 r.epoch, .slice ma' lm mc', .int .i64 r.pos, .int .i64 r.last, .slice ea' le ec']] x fun e w' => e = .returned (.bool true) ∧ Below x.heap.size x w' :=
  (sameRec_any ma ea mc ec lm le r ma' ea' mc' ec' lm le r x h hlm hle hs h' hlm hle hs).mono fun e w' hx => by
    rw [show decide (encR r = encR r) = true by simp] at hx
    exact hx

set_option maxRecDepth 100000 in
set_option maxHeartbeats 1000000 in
theorem entryEncodes_long (ma ea : Option Addr) (mc ec lm le : Nat) (k ep p la : Int) (w : World) (h : 60 < le ∨ 200 < lm) (h0 : lm ≤ maxLen) (h2 : le ≤ maxLen) :
    Calls Try.prog 3 #[.agg #[.int .i64 k, .int .i64 ep, .slice ma lm mc, .int .i64 p, .int .i64 la, .slice ea le ec]] w fun e w' => e = .returned (.bool true) ∧ Below w.heap.size w w' := by
  unfold maxLen at h0 h2
  have E0 : Hid (Ext w (w.alloc (.cells #[.int .i64 k, .int .i64 ep, .slice ma lm mc, .int .i64 p, .int .i64 la, .slice ea le ec] 27))) := below_one w _
  by_cases hl : 60 < le
  · have hd : decide ((60 : Int) < (le : Int)) = true := by simp; omega
    go_enter Try.func3, Try.ntmps3
    go_wp2_with fail
    refine (awake7 _).mono ?_
    rintro e w1 ⟨rfl, hb1⟩
    have E1 := Lib.hid (E0.out.trans hb1)
    clear hb1
    go_wp2
    go_ret
    exact ⟨rfl, E1.out⟩
  · have hd : decide ((60 : Int) < (le : Int)) = false := by simp; omega
    have hd' : decide ((200 : Int) < (lm : Int)) = true := by simp; omega
    go_enter Try.func3, Try.ntmps3
    go_wp2_with fail
    refine (awake7 _).mono ?_
    rintro e w1 ⟨rfl, hb1⟩
    have E1 := Lib.hid (E0.out.trans hb1)
    clear hb1
    go_wp2
    go_ret
    exact ⟨rfl, E1.out⟩

set_option maxRecDepth 100000 in
set_option maxHeartbeats 1000000 in
theorem entryEncodes_no (ma ea : Option Addr) (mc ec lm le : Nat) (r : Pr) (w : World) (h : RecAt w ma mc ea ec r) (hlm : r.mem.length = lm) (hle : r.ents.length = le) (h0 : lm ≤ 200) (h2 : le ≤ 60) (hno : sndR r = false) :
    Calls Try.prog 3 #[.agg #[.int .i64 r.kind, .int .i64 r.epoch, .slice ma lm mc, .int .i64 r.pos, .int .i64 r.last, .slice ea le ec]] w fun e w' => e = .returned (.bool true) ∧ Below w.heap.size w w' := by
  have hd : decide ((60 : Int) < (le : Int)) = false := by simp; omega
  have hd' : decide ((200 : Int) < (lm : Int)) = false := by simp; omega
  have E0 : Hid (Ext w (w.alloc (.cells #[.int .i64 r.kind, .int .i64 r.epoch, .slice ma lm mc, .int .i64 r.pos, .int .i64 r.last, .slice ea le ec] 27))) := below_one w _
  have HX : Hid (Box (w.alloc (.cells #[.int .i64 r.kind, .int .i64 r.epoch, .slice ma lm mc, .int .i64 r.pos, .int .i64 r.last, .slice ea le ec] 27)) w.heap.size #[.int .i64 r.kind, .int .i64 r.epoch, .slice ma lm mc, .int .i64 r.pos, .int .i64 r.last, .slice ea le ec]) := box_new _ _ _ _ rfl
  have HR := Lib.hid (h.below E0.out)
  have HLM := Lib.hid hlm
  have HLE := Lib.hid hle
  have HN := Lib.hid hno
  clear h hlm hle hno
  go_enter Try.func3, Try.ntmps3
  go_wp2_with fail
  generalize (w.alloc (.cells #[.int .i64 r.kind, .int .i64 r.epoch, .slice ma lm mc, .int .i64 r.pos, .int .i64 r.last, .slice ea le ec] 27)) = w0 at *
  refine (encode_no _ _ _ _ _ _ r _ HR.out HLM.out HLE.out HN.out).mono ?_
  rintro e w1 ⟨rfl, hb1⟩
  have E1 := Lib.hid (E0.out.trans hb1)
  have HR1 := Lib.hid (HR.out.below hb1)
  obtain ⟨x0, x1, x2, x3, x4, x5⟩ := box6 (HX.out.below hb1)
  clear hb1
  go_wp2_with fail
  clear x0 x1 x2 x3 x4 x5
  refine (refRec_any _ _ _ _ _ _ r _ HR1.out HLM.out HLE.out).mono ?_
  rw [HN.out]
  rintro e w2 ⟨rfl, hb2⟩
  have E2 := Lib.hid (E1.out.trans hb2)
  clear hb2
  go_wp2_with fail
  refine (awake7 _).mono ?_
  rintro e w3 ⟨rfl, hb3⟩
  have E3 := Lib.hid (E2.out.trans hb3)
  clear hb3
  go_wp2
  go_ret
  exact ⟨rfl, E3.out⟩

set_option maxRecDepth 100000 in
set_option maxHeartbeats 2000000 in
theorem entryEncodes_yes (ma ea : Option Addr) (mc ec lm le : Nat) (r : Pr) (w : World) (h : RecAt w ma mc ea ec r) (hlm : r.mem.length = lm) (hle : r.ents.length = le) (h0 : lm ≤ 200) (h2 : le ≤ 60) (hyes : sndR r = true) :
    Calls Try.prog 3 #[.agg #[.int .i64 r.kind, .int .i64 r.epoch, .slice ma lm mc, .int .i64 r.pos, .int .i64 r.last, .slice ea le ec]] w fun e w' => e = .returned (.bool true) ∧ Below w.heap.size w w' := by
  have hd : decide ((60 : Int) < (le : Int)) = false := by simp; omega
  have hd' : decide ((200 : Int) < (lm : Int)) = false := by simp; omega
  have E0 : Hid (Ext w (w.alloc (.cells #[.int .i64 r.kind, .int .i64 r.epoch, .slice ma lm mc, .int .i64 r.pos, .int .i64 r.last, .slice ea le ec] 27))) := below_one w _
  have HX : Hid (Box (w.alloc (.cells #[.int .i64 r.kind, .int .i64 r.epoch, .slice ma lm mc, .int .i64 r.pos, .int .i64 r.last, .slice ea le ec] 27)) w.heap.size #[.int .i64 r.kind, .int .i64 r.epoch, .slice ma lm mc, .int .i64 r.pos, .int .i64 r.last, .slice ea le ec]) := box_new _ _ _ _ rfl
  have HR := Lib.hid (h.below E0.out)
  have HW := Lib.hid h.wf
  have HLM := Lib.hid hlm
  have HLE := Lib.hid hle
  have HY := Lib.hid hyes
  have HS := Lib.hid (small_of hyes)
  have HF : Hid (((strB (encR r)).toList == (strB (encR r)).toList) = true) := by show _ = _; simp
  clear h hlm hle hyes
  obtain ⟨q, hq⟩ : ∃ q, (encR r).length = q := ⟨_, rfl⟩
  have Q := Lib.hid hq
  clear hq
  have ST := Lib.hid (fun (w' : World) x c (h : SeenAt w' x c (encR r)) => str_at h Q.out)
  generalize strB (encR r) = sr at *
  go_enter Try.func3, Try.ntmps3
  go_wp2_with fail
  generalize (w.alloc (.cells #[.int .i64 r.kind, .int .i64 r.epoch, .slice ma lm mc, .int .i64 r.pos, .int .i64 r.last, .slice ea le ec] 27)) = w0 at *
  refine (encode_yes _ _ _ _ _ _ r _ HR.out HLM.out HLE.out HY.out).mono ?_
  rintro e w1 ⟨g, c, rfl, ho1, hb1⟩
  rw [Q.out]
  have E1 := Lib.hid (E0.out.trans hb1)
  have HO1 := Lib.hid ho1.seenAt
  have HR1 := Lib.hid (HR.out.below hb1)
  have HX1 := Lib.hid (HX.out.below hb1)
  obtain ⟨x0, x1, x2, x3, x4, x5⟩ := box6 HX1.out
  clear ho1 hb1 E0 HR HX
  go_wp2_with fail
  clear x0 x1 x2 x3 x4 x5
  refine (refRec_any _ _ _ _ _ _ r _ HR1.out HLM.out HLE.out).mono ?_
  rw [HY.out]
  rintro e w2 ⟨rfl, hb2⟩
  have E2 := Lib.hid (E1.out.trans hb2)
  have HO2 := Lib.hid (HO1.out.below hb2)
  have HR2 := Lib.hid (HR1.out.below hb2)
  have HX2 := Lib.hid (HX1.out.below hb2)
  clear hb2 E1 HO1 HR1 HX1
  go_wp2_with fail
  refine (decode_back _ _ _ _ _ r _ HW.out HY.out Q.out HLM.out HLE.out HO2.out).mono ?_
  rintro e w3 ⟨ma', mc', ea', ec', rfl, hk3, hb3⟩
  have hbx : Ext w3 (w3.alloc (.cells #[.int .i64 r.kind, .int .i64 r.epoch, .slice ma' lm mc', .int .i64 r.pos, .int .i64 r.last, .slice ea' le ec'] 27)).drew := (below_one w3 _).drew
  have HP4 : Hid (Box (w3.alloc (.cells #[.int .i64 r.kind, .int .i64 r.epoch, .slice ma' lm mc', .int .i64 r.pos, .int .i64 r.last, .slice ea' le ec'] 27)).drew w3.heap.size #[.int .i64 r.kind, .int .i64 r.epoch, .slice ma' lm mc', .int .i64 r.pos, .int .i64 r.last, .slice ea' le ec']) := (box_new _ _ _ _ rfl).below ((Below.refl _ _).drew)
  have E4 := Lib.hid ((E2.out.trans hb3).trans hbx)
  have HO4 := Lib.hid ((HO2.out.below hb3).below hbx)
  have HR4 := Lib.hid ((HR2.out.below hb3).below hbx)
  have HX4 := Lib.hid ((HX2.out.below hb3).below hbx)
  have HK4 := Lib.hid (hk3.below hbx)
  clear hk3 hb3 hbx E2 HO2 HR2 HX2
  go_wp2_with fail
  refine wp_region_ext (by kernel_rfl) ?_
  generalize w3.heap.size = B3 at *
  generalize (w3.alloc (.cells #[.int .i64 r.kind, .int .i64 r.epoch, .slice ma' lm mc', .int .i64 r.pos, .int .i64 r.last, .slice ea' le ec'] 27)).drew = w4 at *
  refine wpAnyH_one (i := 0) rfl (by kernel_rfl) (by rfl) (fun K hK => ?_)
  go_simp
  go_at_call 13
  refine (awake7 _).mono ?_
  rintro e w5 ⟨rfl, hb5⟩
  have E5 := Lib.hid (E4.out.trans hb5)
  have HO5 := Lib.hid (HO4.out.below hb5)
  have HR5 := Lib.hid (HR4.out.below hb5)
  have HX5 := Lib.hid (HX4.out.below hb5)
  have HK5 := Lib.hid (HK4.out.below hb5)
  have HP5 := Lib.hid (HP4.out.below hb5)
  clear E4 HO4 HR4 HX4 HK4 HP4
  refine hK.out _ _ hb5 ?_
  clear hK K
  clear hb5
  refine wpAnyH_tk (i := 1) 43 (v := ?_) rfl rfl (by kernel_rfl) (by kernel_rfl) (by kernel_rfl) (by rfl) (fun wq hwq => ?_) ?_
  rotate_left
  · (go_simp <;> with_reducible rfl)
  simp only [List.setIfInBounds_toArray, List.set_cons_zero, List.set_cons_succ]
  refine wpAnyH_tk (i := 2) 44 (v := ?_) rfl rfl (by kernel_rfl) (by kernel_rfl) (by kernel_rfl) (by rfl) (fun wq hwq => ?_) ?_
  rotate_left
  · (go_simp <;> with_reducible rfl)
  simp only [List.setIfInBounds_toArray, List.set_cons_zero, List.set_cons_succ]
  refine wpAnyH_tk (i := 3) 45 (v := ?_) rfl rfl (by kernel_rfl) (by kernel_rfl) (by kernel_rfl) (by rfl) (fun wq hwq => ?_) ?_
  rotate_left
  · (go_simp <;> with_reducible rfl)
  simp only [List.setIfInBounds_toArray, List.set_cons_zero, List.set_cons_succ]
  refine wpAnyH_tk (i := 4) 46 (v := ?_) rfl rfl (by kernel_rfl) (by kernel_rfl) (by kernel_rfl) (by rfl) (fun wq hwq => ?_) ?_
  rotate_left
  · (go_simp <;> with_reducible rfl)
  simp only [List.setIfInBounds_toArray, List.set_cons_zero, List.set_cons_succ]
  refine wpAnyH_tk (i := 5) 47 (v := ?_) rfl rfl (by kernel_rfl) (by kernel_rfl) (by kernel_rfl) (by rfl) (fun wq hwq => ?_) ?_
  rotate_left
  · (go_simp <;> with_reducible rfl)
  simp only [List.setIfInBounds_toArray, List.set_cons_zero, List.set_cons_succ]
  refine wpAnyH_tk (i := 6) 48 (v := ?_) rfl rfl (by kernel_rfl) (by kernel_rfl) (by kernel_rfl) (by rfl) (fun wq hwq => ?_) ?_
  rotate_left
  · (go_simp <;> with_reducible rfl)
  simp only [List.setIfInBounds_toArray, List.set_cons_zero, List.set_cons_succ]
  refine wpAnyH_tk (i := 7) 49 (v := ?_) rfl rfl (by kernel_rfl) (by kernel_rfl) (by kernel_rfl) (by rfl) (fun wq hwq => ?_) ?_
  rotate_left
  · (have hx := ST.out wq _ _ (HO5.out.below hwq); go_simp <;> with_reducible rfl)
  simp only [List.setIfInBounds_toArray, List.set_cons_zero, List.set_cons_succ]
  refine wpAnyH_tk (i := 8) 50 (v := ?_) rfl rfl (by kernel_rfl) (by kernel_rfl) (by kernel_rfl) (by rfl) (fun wq hwq => ?_) ?_
  rotate_left
  · (obtain ⟨x0, x1, x2, x3, x4, x5⟩ := box6 ((HX5.out).below hwq); go_simp <;> with_reducible rfl)
  simp only [List.setIfInBounds_toArray, List.set_cons_zero, List.set_cons_succ]
  refine wpAnyH_one (i := 9) rfl (by kernel_rfl) (by rfl) (fun K hK => ?_)
  go_simp
  refine (record_own _ _ _ _ _ _ r _ HR5.out HLM.out HLE.out HS.out).mono ?_
  rintro e w6 ⟨g6, c6, rfl, ho6, hb6⟩
  have E6 := Lib.hid (E5.out.trans hb6)
  have HO6 := Lib.hid ho6.seenAt
  have HR6 := Lib.hid (HR5.out.below hb6)
  have HX6 := Lib.hid (HX5.out.below hb6)
  have HK6 := Lib.hid (HK5.out.below hb6)
  have HP6 := Lib.hid (HP5.out.below hb6)
  clear E5 HO5 HR5 HX5 HK5 HP5 ho6
  rw [Q.out]
  refine hK.out _ _ hb6 ?_
  clear hK K
  clear hb6
  refine wpAnyH_tk (i := 10) 52 (v := ?_) rfl rfl (by kernel_rfl) (by kernel_rfl) (by kernel_rfl) (by rfl) (fun wq hwq => ?_) ?_
  rotate_left
  · (have hx := ST.out wq _ _ (HO6.out.below hwq); go_simp <;> with_reducible rfl)
  simp only [List.setIfInBounds_toArray, List.set_cons_zero, List.set_cons_succ]
  refine wpAnyH_tk (i := 11) 53 (v := ?_) rfl rfl (by kernel_rfl) (by kernel_rfl) (by kernel_rfl) (by rfl) (fun wq hwq => ?_) ?_
  rotate_left
  · (have hx := HF.out; go_simp <;> with_reducible rfl)
  simp only [List.setIfInBounds_toArray, List.set_cons_zero, List.set_cons_succ]
  refine wpAnyH_tk (i := 12) 54 (v := ?_) rfl rfl (by kernel_rfl) (by kernel_rfl) (by kernel_rfl) (by rfl) (fun wq hwq => ?_) ?_
  rotate_left
  · (go_simp <;> with_reducible rfl)
  simp only [List.setIfInBounds_toArray, List.set_cons_zero, List.set_cons_succ]
  refine wpAnyH_tk (i := 13) 55 (v := ?_) rfl rfl (by kernel_rfl) (by kernel_rfl) (by kernel_rfl) (by rfl) (fun wq hwq => ?_) ?_
  rotate_left
  · (go_simp <;> with_reducible rfl)
  simp only [List.setIfInBounds_toArray, List.set_cons_zero, List.set_cons_succ]
  refine wpAnyH_tk (i := 14) 56 (v := ?_) rfl rfl (by kernel_rfl) (by kernel_rfl) (by kernel_rfl) (by rfl) (fun wq hwq => ?_) ?_
  rotate_left
  · (go_simp <;> with_reducible rfl)
  simp only [List.setIfInBounds_toArray, List.set_cons_zero, List.set_cons_succ]
  refine wpAnyH_tk (i := 15) 57 (v := ?_) rfl rfl (by kernel_rfl) (by kernel_rfl) (by kernel_rfl) (by rfl) (fun wq hwq => ?_) ?_
  rotate_left
  · (go_simp <;> with_reducible rfl)
  simp only [List.setIfInBounds_toArray, List.set_cons_zero, List.set_cons_succ]
  refine wpAnyH_tk (i := 16) 58 (v := ?_) rfl rfl (by kernel_rfl) (by kernel_rfl) (by kernel_rfl) (by rfl) (fun wq hwq => ?_) ?_
  rotate_left
  · (go_simp <;> with_reducible rfl)
  simp only [List.setIfInBounds_toArray, List.set_cons_zero, List.set_cons_succ]
  refine wpAnyH_tk (i := 17) 59 (v := ?_) rfl rfl (by kernel_rfl) (by kernel_rfl) (by kernel_rfl) (by rfl) (fun wq hwq => ?_) ?_
  rotate_left
  · (go_simp <;> with_reducible rfl)
  simp only [List.setIfInBounds_toArray, List.set_cons_zero, List.set_cons_succ]
  refine wpAnyH_tk (i := 18) 60 (v := ?_) rfl rfl (by kernel_rfl) (by kernel_rfl) (by kernel_rfl) (by rfl) (fun wq hwq => ?_) ?_
  rotate_left
  · (obtain ⟨x0, x1, x2, x3, x4, x5⟩ := box6 ((HP6.out).below hwq); go_simp <;> with_reducible rfl)
  simp only [List.setIfInBounds_toArray, List.set_cons_zero, List.set_cons_succ]
  refine wpAnyH_tk (i := 19) 61 (v := ?_) rfl rfl (by kernel_rfl) (by kernel_rfl) (by kernel_rfl) (by rfl) (fun wq hwq => ?_) ?_
  rotate_left
  · (obtain ⟨x0, x1, x2, x3, x4, x5⟩ := box6 ((HX6.out).below hwq); go_simp <;> with_reducible rfl)
  simp only [List.setIfInBounds_toArray, List.set_cons_zero, List.set_cons_succ]
  refine wpAnyH_one (i := 20) rfl (by kernel_rfl) (by rfl) (fun K hK => ?_)
  go_simp
  refine (sameRec_self _ _ _ _ _ _ _ _ _ _ r _ HK6.out HR6.out HLM.out HLE.out HS.out).mono ?_
  rintro e w7 ⟨rfl, hb7⟩
  have E7 := Lib.hid (E6.out.trans hb7)
  refine hK.out _ _ hb7 ?_
  clear hK K
  clear hb7
  refine wpAnyH_tk (i := 21) 63 (v := ?_) rfl rfl (by kernel_rfl) (by kernel_rfl) (by kernel_rfl) (by rfl) (fun wq hwq => ?_) ?_
  rotate_left
  · (go_simp <;> with_reducible rfl)
  simp only [List.setIfInBounds_toArray, List.set_cons_zero, List.set_cons_succ]
  refine wpAnyH_tk (i := 22) 2 (v := ?_) rfl rfl (by kernel_rfl) (by kernel_rfl) (by kernel_rfl) (by rfl) (fun wq hwq => ?_) ?_
  rotate_left
  · (go_simp <;> with_reducible rfl)
  simp only [List.setIfInBounds_toArray, List.set_cons_zero, List.set_cons_succ]
  refine wpAnyH_done (by kernel_rfl) ?_ _
  refine NoPanic.normal ?_
  go_wp2
  go_ret
  exact ⟨rfl, E7.out⟩

theorem entryEncodes_walk (ma ea : Option Addr) (mc ec : Nat) (r : Pr) (w : World) (h : RecAt w ma mc ea ec r) :
    Calls Try.prog 3 #[.agg #[.int .i64 r.kind, .int .i64 r.epoch, .slice ma r.mem.length mc, .int .i64 r.pos, .int .i64 r.last, .slice ea r.ents.length ec]] w fun e w' => e = .returned (.bool true) ∧ Below w.heap.size w w' := by
  have h0 : r.mem.length ≤ maxLen := by have := h.mem.le; have := h.mem.max; omega
  have h2 : r.ents.length ≤ maxLen := by have := h.ents.le; have := h.ents.max; omega
  by_cases hlong : 60 < r.ents.length ∨ 200 < r.mem.length
  · exact entryEncodes_long ma ea mc ec _ _ _ _ _ _ w hlong h0 h2
  · cases hs : sndR r with
    | false => exact entryEncodes_no ma ea mc ec _ _ r w h rfl rfl (by omega) (by omega) hs
    | true => exact entryEncodes_yes ma ea mc ec _ _ r w h rfl rfl (by omega) (by omega) hs

end Go.Proofs.Ytjegidnlnjgbkaa
