/-
  The walk of the law EntryUnlike.
-/
import Derived.Test.YtjegidnlnjgbkaaLaw71
namespace Go.Proofs.Ytjegidnlnjgbkaa
open Go.RowKit




set_option maxRecDepth 100000 in
set_option maxHeartbeats 2000000 in
theorem entryUnlike_long (ma ea : Option Addr) (mc ec lm le : Nat) (k ep p la : Int) (ma' ea' : Option Addr) (mc' ec' lm' le' : Nat) (k' ep' p' la' : Int) (w : World) (h : 30 < le ∨ 30 < le' ∨ 40 < lm ∨ 40 < lm') (h0 : lm ≤ maxLen) (h2 : le ≤ maxLen) (h0' : lm' ≤ maxLen) (h2' : le' ≤ maxLen) :
    Calls Try.prog 7 #[.agg #[.int .i64 k, .int .i64 ep, .slice ma lm mc, .int .i64 p, .int .i64 la, .slice ea le ec], .agg #[.int .i64 k', .int .i64 ep', .slice ma' lm' mc', .int .i64 p', .int .i64 la', .slice ea' le' ec']] w fun e w' => e = .returned (.bool true) ∧ Below w.heap.size w w' := by
  unfold maxLen at h0 h2 h0' h2'
  have E0 : Hid (Ext w ((w.alloc (.cells #[.int .i64 k, .int .i64 ep, .slice ma lm mc, .int .i64 p, .int .i64 la, .slice ea le ec] 27)).alloc (.cells #[.int .i64 k', .int .i64 ep', .slice ma' lm' mc', .int .i64 p', .int .i64 la', .slice ea' le' ec'] 27))) := (below_one w _).alloc (by simp) _
  by_cases hl : 30 < le
  · have hd : decide ((30 : Int) < (le : Int)) = true := by simp; omega
    go_enter Try.func7, Try.ntmps7
    go_wp2_with fail
    refine (awake7 _).mono ?_
    rintro e w1 ⟨rfl, hb1⟩
    have E1 := Lib.hid (E0.out.trans hb1)
    clear hb1
    go_wp2
    go_ret
    exact ⟨rfl, E1.out⟩
  · have hd : decide ((30 : Int) < (le : Int)) = false := by simp; omega
    by_cases hl2 : 30 < le'
    · have hd2 : decide ((30 : Int) < (le' : Int)) = true := by simp; omega
      go_enter Try.func7, Try.ntmps7
      go_wp2_with fail
      refine (awake7 _).mono ?_
      rintro e w1 ⟨rfl, hb1⟩
      have E1 := Lib.hid (E0.out.trans hb1)
      clear hb1
      go_wp2
      go_ret
      exact ⟨rfl, E1.out⟩
    · have hd2 : decide ((30 : Int) < (le' : Int)) = false := by simp; omega
      by_cases hl3 : 40 < lm
      · have hd3 : decide ((40 : Int) < (lm : Int)) = true := by simp; omega
        go_enter Try.func7, Try.ntmps7
        go_wp2_with fail
        refine (awake7 _).mono ?_
        rintro e w1 ⟨rfl, hb1⟩
        have E1 := Lib.hid (E0.out.trans hb1)
        clear hb1
        go_wp2
        go_ret
        exact ⟨rfl, E1.out⟩
      · have hd3 : decide ((40 : Int) < (lm : Int)) = false := by simp; omega
        have hd4 : decide ((40 : Int) < (lm' : Int)) = true := by simp; omega
        go_enter Try.func7, Try.ntmps7
        go_wp2_with fail
        refine (awake7 _).mono ?_
        rintro e w1 ⟨rfl, hb1⟩
        have E1 := Lib.hid (E0.out.trans hb1)
        clear hb1
        go_wp2
        go_ret
        exact ⟨rfl, E1.out⟩





set_option maxRecDepth 100000 in
set_option maxHeartbeats 2000000 in
theorem entryUnlike_n (ma ea : Option Addr) (mc ec lm le : Nat) (r : Pr) (ma' ea' : Option Addr) (mc' ec' lm' le' : Nat) (r' : Pr) (w : World) (h : RecAt w ma mc ea ec r) (hlm : r.mem.length = lm) (hle : r.ents.length = le) (h' : RecAt w ma' mc' ea' ec' r') (hlm' : r'.mem.length = lm') (hle' : r'.ents.length = le') (h0 : lm ≤ 40) (h2 : le ≤ 30) (h0' : lm' ≤ 40) (h2' : le' ≤ 30) (hs : sndR r = false) (hs' : True) :
    Calls Try.prog 7 #[.agg #[.int .i64 r.kind, .int .i64 r.epoch, .slice ma lm mc, .int .i64 r.pos, .int .i64 r.last, .slice ea le ec], .agg #[.int .i64 r'.kind, .int .i64 r'.epoch, .slice ma' lm' mc', .int .i64 r'.pos, .int .i64 r'.last, .slice ea' le' ec']] w fun e w' => e = .returned (.bool true) ∧ Below w.heap.size w w' := by
  have hd : decide ((30 : Int) < (le : Int)) = false := by simp; omega
  have hd2 : decide ((30 : Int) < (le' : Int)) = false := by simp; omega
  have hd3 : decide ((40 : Int) < (lm : Int)) = false := by simp; omega
  have hd4 : decide ((40 : Int) < (lm' : Int)) = false := by simp; omega
  have E0 : Hid (Ext w ((w.alloc (.cells #[.int .i64 r.kind, .int .i64 r.epoch, .slice ma lm mc, .int .i64 r.pos, .int .i64 r.last, .slice ea le ec] 27)).alloc (.cells #[.int .i64 r'.kind, .int .i64 r'.epoch, .slice ma' lm' mc', .int .i64 r'.pos, .int .i64 r'.last, .slice ea' le' ec'] 27))) := (below_one w _).alloc (by simp) _
  have HX : Hid (Box ((w.alloc (.cells #[.int .i64 r.kind, .int .i64 r.epoch, .slice ma lm mc, .int .i64 r.pos, .int .i64 r.last, .slice ea le ec] 27)).alloc (.cells #[.int .i64 r'.kind, .int .i64 r'.epoch, .slice ma' lm' mc', .int .i64 r'.pos, .int .i64 r'.last, .slice ea' le' ec'] 27)) w.heap.size #[.int .i64 r.kind, .int .i64 r.epoch, .slice ma lm mc, .int .i64 r.pos, .int .i64 r.last, .slice ea le ec]) := (box_new w _ _ _ rfl).below (below_one _ _)
  have HX' : Hid (Box ((w.alloc (.cells #[.int .i64 r.kind, .int .i64 r.epoch, .slice ma lm mc, .int .i64 r.pos, .int .i64 r.last, .slice ea le ec] 27)).alloc (.cells #[.int .i64 r'.kind, .int .i64 r'.epoch, .slice ma' lm' mc', .int .i64 r'.pos, .int .i64 r'.last, .slice ea' le' ec'] 27)) (w.heap.size + 1) #[.int .i64 r'.kind, .int .i64 r'.epoch, .slice ma' lm' mc', .int .i64 r'.pos, .int .i64 r'.last, .slice ea' le' ec']) := box_new _ _ _ _ (by simp)
  have HR := Lib.hid (h.below E0.out)
  have HR' := Lib.hid (h'.below E0.out)
  have HLM := Lib.hid hlm
  have HLE := Lib.hid hle
  have HLM' := Lib.hid hlm'
  have HLE' := Lib.hid hle'
  have HS := Lib.hid hs
  have HS' := Lib.hid hs'
  clear h h' hlm hle hlm' hle' hs hs'
  go_enter Try.func7, Try.ntmps7
  go_wp2_with fail
  generalize ((w.alloc (.cells #[.int .i64 r.kind, .int .i64 r.epoch, .slice ma lm mc, .int .i64 r.pos, .int .i64 r.last, .slice ea le ec] 27)).alloc (.cells #[.int .i64 r'.kind, .int .i64 r'.epoch, .slice ma' lm' mc', .int .i64 r'.pos, .int .i64 r'.last, .slice ea' le' ec'] 27)) = w0 at *
  refine (encode_no _ _ _ _ _ _ r _ HR.out HLM.out HLE.out HS.out).mono ?_
  rintro e w1 ⟨rfl, hb1⟩
  have E1 := Lib.hid (E0.out.trans hb1)
  have HR1' := Lib.hid (HR'.out.below hb1)
  obtain ⟨x0, x1, x2, x3, x4, x5⟩ := box6 (HX'.out.below hb1)
  clear hb1 E0 HX HX' HR HR'
  go_wp2_with fail
  clear x0 x1 x2 x3 x4 x5
  cases hsn : sndR r' with
  | false =>
    refine (encode_no _ _ _ _ _ _ r' _ HR1'.out HLM'.out HLE'.out hsn).mono ?_
    rintro e w2 ⟨rfl, hb2⟩
    have E2 := Lib.hid (E1.out.trans hb2)
    clear hb2 hsn
    go_wp2_with fail
    refine wp_region_ext (by kernel_rfl) ?_
    have E3 : Hid (Ext w w2.drew) := E2.out.drew
    generalize w2.drew = w3 at *
    refine wpAnyH_one (i := 0) rfl (by kernel_rfl) (by rfl) (fun K hK => ?_)
    go_simp
    go_at_call 13
    refine (awake7 _).mono ?_
    rintro e w4 ⟨rfl, hb4⟩
    have E4 := Lib.hid (E3.out.trans hb4)
    refine hK.out _ _ hb4 ?_
    clear hK K
    clear hb4
    refine wpAnyH_tk (i := 1) 45 (v := ?_) rfl rfl (by kernel_rfl) (by kernel_rfl) (by kernel_rfl) (by rfl) (fun wq hwq => ?_) ?_
    rotate_left
    · (go_simp <;> with_reducible rfl)
    simp only [List.setIfInBounds_toArray, List.set_cons_zero, List.set_cons_succ]
    refine wpAnyH_tk (i := 2) 46 (v := ?_) rfl rfl (by kernel_rfl) (by kernel_rfl) (by kernel_rfl) (by rfl) (fun wq hwq => ?_) ?_
    rotate_left
    · (go_simp <;> with_reducible rfl)
    simp only [List.setIfInBounds_toArray, List.set_cons_zero, List.set_cons_succ]
    refine wpAnyH_tk (i := 3) 47 (v := ?_) rfl rfl (by kernel_rfl) (by kernel_rfl) (by kernel_rfl) (by rfl) (fun wq hwq => ?_) ?_
    rotate_left
    · (go_simp <;> with_reducible rfl)
    simp only [List.setIfInBounds_toArray, List.set_cons_zero, List.set_cons_succ]
    refine wpAnyH_tk (i := 4) 48 (v := ?_) rfl rfl (by kernel_rfl) (by kernel_rfl) (by kernel_rfl) (by rfl) (fun wq hwq => ?_) ?_
    rotate_left
    · (go_simp <;> with_reducible rfl)
    simp only [List.setIfInBounds_toArray, List.set_cons_zero, List.set_cons_succ]
    refine wpAnyH_not (i := 5) 49 rfl rfl (by kernel_rfl) (by kernel_rfl) (by kernel_rfl) (by rfl) ?_
    simp only [List.setIfInBounds_toArray, List.set_cons_zero, List.set_cons_succ]
    refine wpAnyH_not (i := 6) 50 rfl rfl (by kernel_rfl) (by kernel_rfl) (by kernel_rfl) (by rfl) ?_
    simp only [List.setIfInBounds_toArray, List.set_cons_zero, List.set_cons_succ]
    refine wpAnyH_tk (i := 7) 51 (v := ?_) rfl rfl (by kernel_rfl) (by kernel_rfl) (by kernel_rfl) (by rfl) (fun wq hwq => ?_) ?_
    rotate_left
    · (go_simp <;> with_reducible rfl)
    simp only [List.setIfInBounds_toArray, List.set_cons_zero, List.set_cons_succ]
    refine wpAnyH_tk (i := 8) 52 (v := ?_) rfl rfl (by kernel_rfl) (by kernel_rfl) (by kernel_rfl) (by rfl) (fun wq hwq => ?_) ?_
    rotate_left
    · (go_simp <;> with_reducible rfl)
    simp only [List.setIfInBounds_toArray, List.set_cons_zero, List.set_cons_succ]
    refine wpAnyH_not (i := 9) 53 rfl rfl (by kernel_rfl) (by kernel_rfl) (by kernel_rfl) (by rfl) ?_
    simp only [List.setIfInBounds_toArray, List.set_cons_zero, List.set_cons_succ]
    refine wpAnyH_not (i := 10) 54 rfl rfl (by kernel_rfl) (by kernel_rfl) (by kernel_rfl) (by rfl) ?_
    simp only [List.setIfInBounds_toArray, List.set_cons_zero, List.set_cons_succ]
    refine wpAnyH_not (i := 11) 55 rfl rfl (by kernel_rfl) (by kernel_rfl) (by kernel_rfl) (by rfl) ?_
    simp only [List.setIfInBounds_toArray, List.set_cons_zero, List.set_cons_succ]
    refine wpAnyH_not (i := 12) 56 rfl rfl (by kernel_rfl) (by kernel_rfl) (by kernel_rfl) (by rfl) ?_
    simp only [List.setIfInBounds_toArray, List.set_cons_zero, List.set_cons_succ]
    refine wpAnyH_not (i := 13) 57 rfl rfl (by kernel_rfl) (by kernel_rfl) (by kernel_rfl) (by rfl) ?_
    simp only [List.setIfInBounds_toArray, List.set_cons_zero, List.set_cons_succ]
    refine wpAnyH_not (i := 14) 58 rfl rfl (by kernel_rfl) (by kernel_rfl) (by kernel_rfl) (by rfl) ?_
    simp only [List.setIfInBounds_toArray, List.set_cons_zero, List.set_cons_succ]
    refine wpAnyH_not (i := 15) 59 rfl rfl (by kernel_rfl) (by kernel_rfl) (by kernel_rfl) (by rfl) ?_
    simp only [List.setIfInBounds_toArray, List.set_cons_zero, List.set_cons_succ]
    refine wpAnyH_not (i := 16) 60 rfl rfl (by kernel_rfl) (by kernel_rfl) (by kernel_rfl) (by rfl) ?_
    simp only [List.setIfInBounds_toArray, List.set_cons_zero, List.set_cons_succ]
    refine wpAnyH_not (i := 17) 61 rfl rfl (by kernel_rfl) (by kernel_rfl) (by kernel_rfl) (by rfl) ?_
    simp only [List.setIfInBounds_toArray, List.set_cons_zero, List.set_cons_succ]
    refine wpAnyH_tk (i := 18) 62 (v := ?_) rfl rfl (by kernel_rfl) (by kernel_rfl) (by kernel_rfl) (by rfl) (fun wq hwq => ?_) ?_
    rotate_left
    · (go_simp <;> with_reducible rfl)
    simp only [List.setIfInBounds_toArray, List.set_cons_zero, List.set_cons_succ]
    refine wpAnyH_tk (i := 19) 63 (v := ?_) rfl rfl (by kernel_rfl) (by kernel_rfl) (by kernel_rfl) (by rfl) (fun wq hwq => ?_) ?_
    rotate_left
    · (go_simp <;> with_reducible rfl)
    simp only [List.setIfInBounds_toArray, List.set_cons_zero, List.set_cons_succ]
    refine wpAnyH_tk (i := 20) 4 (v := ?_) rfl rfl (by kernel_rfl) (by kernel_rfl) (by kernel_rfl) (by rfl) (fun wq hwq => ?_) ?_
    rotate_left
    · (go_simp <;> with_reducible rfl)
    simp only [List.setIfInBounds_toArray, List.set_cons_zero, List.set_cons_succ]
    refine wpAnyH_done (by kernel_rfl) ?_ _
    refine NoPanic.normal ?_
    go_wp2
    go_ret
    exact ⟨rfl, E4.out⟩
  | true =>
    refine (encode_yes _ _ _ _ _ _ r' _ HR1'.out HLM'.out HLE'.out hsn).mono ?_
    rintro e w2 ⟨g2, c2, rfl, _, hb2⟩
    have E2 := Lib.hid (E1.out.trans hb2)
    clear hb2 hsn
    go_wp2_with fail
    refine wp_region_ext (by kernel_rfl) ?_
    have E3 : Hid (Ext w w2.drew) := E2.out.drew
    generalize w2.drew = w3 at *
    refine wpAnyH_one (i := 0) rfl (by kernel_rfl) (by rfl) (fun K hK => ?_)
    go_simp
    go_at_call 13
    refine (awake7 _).mono ?_
    rintro e w4 ⟨rfl, hb4⟩
    have E4 := Lib.hid (E3.out.trans hb4)
    refine hK.out _ _ hb4 ?_
    clear hK K
    clear hb4
    refine wpAnyH_tk (i := 1) 45 (v := ?_) rfl rfl (by kernel_rfl) (by kernel_rfl) (by kernel_rfl) (by rfl) (fun wq hwq => ?_) ?_
    rotate_left
    · (go_simp <;> with_reducible rfl)
    simp only [List.setIfInBounds_toArray, List.set_cons_zero, List.set_cons_succ]
    refine wpAnyH_tk (i := 2) 46 (v := ?_) rfl rfl (by kernel_rfl) (by kernel_rfl) (by kernel_rfl) (by rfl) (fun wq hwq => ?_) ?_
    rotate_left
    · (go_simp <;> with_reducible rfl)
    simp only [List.setIfInBounds_toArray, List.set_cons_zero, List.set_cons_succ]
    refine wpAnyH_tk (i := 3) 47 (v := ?_) rfl rfl (by kernel_rfl) (by kernel_rfl) (by kernel_rfl) (by rfl) (fun wq hwq => ?_) ?_
    rotate_left
    · (go_simp <;> with_reducible rfl)
    simp only [List.setIfInBounds_toArray, List.set_cons_zero, List.set_cons_succ]
    refine wpAnyH_tk (i := 4) 48 (v := ?_) rfl rfl (by kernel_rfl) (by kernel_rfl) (by kernel_rfl) (by rfl) (fun wq hwq => ?_) ?_
    rotate_left
    · (go_simp <;> with_reducible rfl)
    simp only [List.setIfInBounds_toArray, List.set_cons_zero, List.set_cons_succ]
    refine wpAnyH_not (i := 5) 49 rfl rfl (by kernel_rfl) (by kernel_rfl) (by kernel_rfl) (by rfl) ?_
    simp only [List.setIfInBounds_toArray, List.set_cons_zero, List.set_cons_succ]
    refine wpAnyH_not (i := 6) 50 rfl rfl (by kernel_rfl) (by kernel_rfl) (by kernel_rfl) (by rfl) ?_
    simp only [List.setIfInBounds_toArray, List.set_cons_zero, List.set_cons_succ]
    refine wpAnyH_tk (i := 7) 51 (v := ?_) rfl rfl (by kernel_rfl) (by kernel_rfl) (by kernel_rfl) (by rfl) (fun wq hwq => ?_) ?_
    rotate_left
    · (go_simp <;> with_reducible rfl)
    simp only [List.setIfInBounds_toArray, List.set_cons_zero, List.set_cons_succ]
    refine wpAnyH_tk (i := 8) 52 (v := ?_) rfl rfl (by kernel_rfl) (by kernel_rfl) (by kernel_rfl) (by rfl) (fun wq hwq => ?_) ?_
    rotate_left
    · (go_simp <;> with_reducible rfl)
    simp only [List.setIfInBounds_toArray, List.set_cons_zero, List.set_cons_succ]
    refine wpAnyH_not (i := 9) 53 rfl rfl (by kernel_rfl) (by kernel_rfl) (by kernel_rfl) (by rfl) ?_
    simp only [List.setIfInBounds_toArray, List.set_cons_zero, List.set_cons_succ]
    refine wpAnyH_not (i := 10) 54 rfl rfl (by kernel_rfl) (by kernel_rfl) (by kernel_rfl) (by rfl) ?_
    simp only [List.setIfInBounds_toArray, List.set_cons_zero, List.set_cons_succ]
    refine wpAnyH_not (i := 11) 55 rfl rfl (by kernel_rfl) (by kernel_rfl) (by kernel_rfl) (by rfl) ?_
    simp only [List.setIfInBounds_toArray, List.set_cons_zero, List.set_cons_succ]
    refine wpAnyH_not (i := 12) 56 rfl rfl (by kernel_rfl) (by kernel_rfl) (by kernel_rfl) (by rfl) ?_
    simp only [List.setIfInBounds_toArray, List.set_cons_zero, List.set_cons_succ]
    refine wpAnyH_not (i := 13) 57 rfl rfl (by kernel_rfl) (by kernel_rfl) (by kernel_rfl) (by rfl) ?_
    simp only [List.setIfInBounds_toArray, List.set_cons_zero, List.set_cons_succ]
    refine wpAnyH_not (i := 14) 58 rfl rfl (by kernel_rfl) (by kernel_rfl) (by kernel_rfl) (by rfl) ?_
    simp only [List.setIfInBounds_toArray, List.set_cons_zero, List.set_cons_succ]
    refine wpAnyH_not (i := 15) 59 rfl rfl (by kernel_rfl) (by kernel_rfl) (by kernel_rfl) (by rfl) ?_
    simp only [List.setIfInBounds_toArray, List.set_cons_zero, List.set_cons_succ]
    refine wpAnyH_not (i := 16) 60 rfl rfl (by kernel_rfl) (by kernel_rfl) (by kernel_rfl) (by rfl) ?_
    simp only [List.setIfInBounds_toArray, List.set_cons_zero, List.set_cons_succ]
    refine wpAnyH_not (i := 17) 61 rfl rfl (by kernel_rfl) (by kernel_rfl) (by kernel_rfl) (by rfl) ?_
    simp only [List.setIfInBounds_toArray, List.set_cons_zero, List.set_cons_succ]
    refine wpAnyH_tk (i := 18) 62 (v := ?_) rfl rfl (by kernel_rfl) (by kernel_rfl) (by kernel_rfl) (by rfl) (fun wq hwq => ?_) ?_
    rotate_left
    · (go_simp <;> with_reducible rfl)
    simp only [List.setIfInBounds_toArray, List.set_cons_zero, List.set_cons_succ]
    refine wpAnyH_tk (i := 19) 63 (v := ?_) rfl rfl (by kernel_rfl) (by kernel_rfl) (by kernel_rfl) (by rfl) (fun wq hwq => ?_) ?_
    rotate_left
    · (go_simp <;> with_reducible rfl)
    simp only [List.setIfInBounds_toArray, List.set_cons_zero, List.set_cons_succ]
    refine wpAnyH_tk (i := 20) 4 (v := ?_) rfl rfl (by kernel_rfl) (by kernel_rfl) (by kernel_rfl) (by rfl) (fun wq hwq => ?_) ?_
    rotate_left
    · (go_simp <;> with_reducible rfl)
    simp only [List.setIfInBounds_toArray, List.set_cons_zero, List.set_cons_succ]
    refine wpAnyH_done (by kernel_rfl) ?_ _
    refine NoPanic.normal ?_
    go_wp2
    go_ret
    exact ⟨rfl, E4.out⟩

set_option maxRecDepth 100000 in
set_option maxHeartbeats 2000000 in
theorem entryUnlike_yn (ma ea : Option Addr) (mc ec lm le : Nat) (r : Pr) (ma' ea' : Option Addr) (mc' ec' lm' le' : Nat) (r' : Pr) (w : World) (h : RecAt w ma mc ea ec r) (hlm : r.mem.length = lm) (hle : r.ents.length = le) (h' : RecAt w ma' mc' ea' ec' r') (hlm' : r'.mem.length = lm') (hle' : r'.ents.length = le') (h0 : lm ≤ 40) (h2 : le ≤ 30) (h0' : lm' ≤ 40) (h2' : le' ≤ 30) (hs : sndR r = true) (hs' : sndR r' = false) :
    Calls Try.prog 7 #[.agg #[.int .i64 r.kind, .int .i64 r.epoch, .slice ma lm mc, .int .i64 r.pos, .int .i64 r.last, .slice ea le ec], .agg #[.int .i64 r'.kind, .int .i64 r'.epoch, .slice ma' lm' mc', .int .i64 r'.pos, .int .i64 r'.last, .slice ea' le' ec']] w fun e w' => e = .returned (.bool true) ∧ Below w.heap.size w w' := by
  have hd : decide ((30 : Int) < (le : Int)) = false := by simp; omega
  have hd2 : decide ((30 : Int) < (le' : Int)) = false := by simp; omega
  have hd3 : decide ((40 : Int) < (lm : Int)) = false := by simp; omega
  have hd4 : decide ((40 : Int) < (lm' : Int)) = false := by simp; omega
  have E0 : Hid (Ext w ((w.alloc (.cells #[.int .i64 r.kind, .int .i64 r.epoch, .slice ma lm mc, .int .i64 r.pos, .int .i64 r.last, .slice ea le ec] 27)).alloc (.cells #[.int .i64 r'.kind, .int .i64 r'.epoch, .slice ma' lm' mc', .int .i64 r'.pos, .int .i64 r'.last, .slice ea' le' ec'] 27))) := (below_one w _).alloc (by simp) _
  have HX : Hid (Box ((w.alloc (.cells #[.int .i64 r.kind, .int .i64 r.epoch, .slice ma lm mc, .int .i64 r.pos, .int .i64 r.last, .slice ea le ec] 27)).alloc (.cells #[.int .i64 r'.kind, .int .i64 r'.epoch, .slice ma' lm' mc', .int .i64 r'.pos, .int .i64 r'.last, .slice ea' le' ec'] 27)) w.heap.size #[.int .i64 r.kind, .int .i64 r.epoch, .slice ma lm mc, .int .i64 r.pos, .int .i64 r.last, .slice ea le ec]) := (box_new w _ _ _ rfl).below (below_one _ _)
  have HX' : Hid (Box ((w.alloc (.cells #[.int .i64 r.kind, .int .i64 r.epoch, .slice ma lm mc, .int .i64 r.pos, .int .i64 r.last, .slice ea le ec] 27)).alloc (.cells #[.int .i64 r'.kind, .int .i64 r'.epoch, .slice ma' lm' mc', .int .i64 r'.pos, .int .i64 r'.last, .slice ea' le' ec'] 27)) (w.heap.size + 1) #[.int .i64 r'.kind, .int .i64 r'.epoch, .slice ma' lm' mc', .int .i64 r'.pos, .int .i64 r'.last, .slice ea' le' ec']) := box_new _ _ _ _ (by simp)
  have HR := Lib.hid (h.below E0.out)
  have HR' := Lib.hid (h'.below E0.out)
  have HLM := Lib.hid hlm
  have HLE := Lib.hid hle
  have HLM' := Lib.hid hlm'
  have HLE' := Lib.hid hle'
  have HS := Lib.hid hs
  have HS' := Lib.hid hs'
  clear h h' hlm hle hlm' hle' hs hs'
  go_enter Try.func7, Try.ntmps7
  go_wp2_with fail
  generalize ((w.alloc (.cells #[.int .i64 r.kind, .int .i64 r.epoch, .slice ma lm mc, .int .i64 r.pos, .int .i64 r.last, .slice ea le ec] 27)).alloc (.cells #[.int .i64 r'.kind, .int .i64 r'.epoch, .slice ma' lm' mc', .int .i64 r'.pos, .int .i64 r'.last, .slice ea' le' ec'] 27)) = w0 at *
  refine (encode_yes _ _ _ _ _ _ r _ HR.out HLM.out HLE.out HS.out).mono ?_
  rintro e w1 ⟨g1, c1, rfl, _, hb1⟩
  have E1 := Lib.hid (E0.out.trans hb1)
  have HR1' := Lib.hid (HR'.out.below hb1)
  obtain ⟨x0, x1, x2, x3, x4, x5⟩ := box6 (HX'.out.below hb1)
  clear hb1 E0 HX HX' HR HR'
  go_wp2_with fail
  clear x0 x1 x2 x3 x4 x5
  refine (encode_no _ _ _ _ _ _ r' _ HR1'.out HLM'.out HLE'.out HS'.out).mono ?_
  rintro e w2 ⟨rfl, hb2⟩
  have E2 := Lib.hid (E1.out.trans hb2)
  clear hb2
  go_wp2_with fail
  refine wp_region_ext (by kernel_rfl) ?_
  have E3 : Hid (Ext w w2.drew) := E2.out.drew
  generalize w2.drew = w3 at *
  refine wpAnyH_one (i := 0) rfl (by kernel_rfl) (by rfl) (fun K hK => ?_)
  go_simp
  go_at_call 13
  refine (awake7 _).mono ?_
  rintro e w4 ⟨rfl, hb4⟩
  have E4 := Lib.hid (E3.out.trans hb4)
  refine hK.out _ _ hb4 ?_
  clear hK K
  clear hb4
  refine wpAnyH_tk (i := 1) 45 (v := ?_) rfl rfl (by kernel_rfl) (by kernel_rfl) (by kernel_rfl) (by rfl) (fun wq hwq => ?_) ?_
  rotate_left
  · (go_simp <;> with_reducible rfl)
  simp only [List.setIfInBounds_toArray, List.set_cons_zero, List.set_cons_succ]
  refine wpAnyH_tk (i := 2) 46 (v := ?_) rfl rfl (by kernel_rfl) (by kernel_rfl) (by kernel_rfl) (by rfl) (fun wq hwq => ?_) ?_
  rotate_left
  · (go_simp <;> with_reducible rfl)
  simp only [List.setIfInBounds_toArray, List.set_cons_zero, List.set_cons_succ]
  refine wpAnyH_tk (i := 3) 47 (v := ?_) rfl rfl (by kernel_rfl) (by kernel_rfl) (by kernel_rfl) (by rfl) (fun wq hwq => ?_) ?_
  rotate_left
  · (go_simp <;> with_reducible rfl)
  simp only [List.setIfInBounds_toArray, List.set_cons_zero, List.set_cons_succ]
  refine wpAnyH_tk (i := 4) 48 (v := ?_) rfl rfl (by kernel_rfl) (by kernel_rfl) (by kernel_rfl) (by rfl) (fun wq hwq => ?_) ?_
  rotate_left
  · (go_simp <;> with_reducible rfl)
  simp only [List.setIfInBounds_toArray, List.set_cons_zero, List.set_cons_succ]
  refine wpAnyH_tk (i := 5) 49 (v := ?_) rfl rfl (by kernel_rfl) (by kernel_rfl) (by kernel_rfl) (by rfl) (fun wq hwq => ?_) ?_
  rotate_left
  · (go_simp <;> with_reducible rfl)
  simp only [List.setIfInBounds_toArray, List.set_cons_zero, List.set_cons_succ]
  refine wpAnyH_tk (i := 6) 50 (v := ?_) rfl rfl (by kernel_rfl) (by kernel_rfl) (by kernel_rfl) (by rfl) (fun wq hwq => ?_) ?_
  rotate_left
  · (go_simp <;> with_reducible rfl)
  simp only [List.setIfInBounds_toArray, List.set_cons_zero, List.set_cons_succ]
  refine wpAnyH_tk (i := 7) 51 (v := ?_) rfl rfl (by kernel_rfl) (by kernel_rfl) (by kernel_rfl) (by rfl) (fun wq hwq => ?_) ?_
  rotate_left
  · (go_simp <;> with_reducible rfl)
  simp only [List.setIfInBounds_toArray, List.set_cons_zero, List.set_cons_succ]
  refine wpAnyH_tk (i := 8) 52 (v := ?_) rfl rfl (by kernel_rfl) (by kernel_rfl) (by kernel_rfl) (by rfl) (fun wq hwq => ?_) ?_
  rotate_left
  · (go_simp <;> with_reducible rfl)
  simp only [List.setIfInBounds_toArray, List.set_cons_zero, List.set_cons_succ]
  refine wpAnyH_not (i := 9) 53 rfl rfl (by kernel_rfl) (by kernel_rfl) (by kernel_rfl) (by rfl) ?_
  simp only [List.setIfInBounds_toArray, List.set_cons_zero, List.set_cons_succ]
  refine wpAnyH_not (i := 10) 54 rfl rfl (by kernel_rfl) (by kernel_rfl) (by kernel_rfl) (by rfl) ?_
  simp only [List.setIfInBounds_toArray, List.set_cons_zero, List.set_cons_succ]
  refine wpAnyH_not (i := 11) 55 rfl rfl (by kernel_rfl) (by kernel_rfl) (by kernel_rfl) (by rfl) ?_
  simp only [List.setIfInBounds_toArray, List.set_cons_zero, List.set_cons_succ]
  refine wpAnyH_not (i := 12) 56 rfl rfl (by kernel_rfl) (by kernel_rfl) (by kernel_rfl) (by rfl) ?_
  simp only [List.setIfInBounds_toArray, List.set_cons_zero, List.set_cons_succ]
  refine wpAnyH_not (i := 13) 57 rfl rfl (by kernel_rfl) (by kernel_rfl) (by kernel_rfl) (by rfl) ?_
  simp only [List.setIfInBounds_toArray, List.set_cons_zero, List.set_cons_succ]
  refine wpAnyH_not (i := 14) 58 rfl rfl (by kernel_rfl) (by kernel_rfl) (by kernel_rfl) (by rfl) ?_
  simp only [List.setIfInBounds_toArray, List.set_cons_zero, List.set_cons_succ]
  refine wpAnyH_not (i := 15) 59 rfl rfl (by kernel_rfl) (by kernel_rfl) (by kernel_rfl) (by rfl) ?_
  simp only [List.setIfInBounds_toArray, List.set_cons_zero, List.set_cons_succ]
  refine wpAnyH_not (i := 16) 60 rfl rfl (by kernel_rfl) (by kernel_rfl) (by kernel_rfl) (by rfl) ?_
  simp only [List.setIfInBounds_toArray, List.set_cons_zero, List.set_cons_succ]
  refine wpAnyH_not (i := 17) 61 rfl rfl (by kernel_rfl) (by kernel_rfl) (by kernel_rfl) (by rfl) ?_
  simp only [List.setIfInBounds_toArray, List.set_cons_zero, List.set_cons_succ]
  refine wpAnyH_tk (i := 18) 62 (v := ?_) rfl rfl (by kernel_rfl) (by kernel_rfl) (by kernel_rfl) (by rfl) (fun wq hwq => ?_) ?_
  rotate_left
  · (go_simp <;> with_reducible rfl)
  simp only [List.setIfInBounds_toArray, List.set_cons_zero, List.set_cons_succ]
  refine wpAnyH_tk (i := 19) 63 (v := ?_) rfl rfl (by kernel_rfl) (by kernel_rfl) (by kernel_rfl) (by rfl) (fun wq hwq => ?_) ?_
  rotate_left
  · (go_simp <;> with_reducible rfl)
  simp only [List.setIfInBounds_toArray, List.set_cons_zero, List.set_cons_succ]
  refine wpAnyH_tk (i := 20) 4 (v := ?_) rfl rfl (by kernel_rfl) (by kernel_rfl) (by kernel_rfl) (by rfl) (fun wq hwq => ?_) ?_
  rotate_left
  · (go_simp <;> with_reducible rfl)
  simp only [List.setIfInBounds_toArray, List.set_cons_zero, List.set_cons_succ]
  refine wpAnyH_done (by kernel_rfl) ?_ _
  refine NoPanic.normal ?_
  go_wp2
  go_ret
  exact ⟨rfl, E4.out⟩

set_option maxRecDepth 100000 in
set_option maxHeartbeats 2000000 in
theorem entryUnlike_yy (ma ea : Option Addr) (mc ec lm le : Nat) (r : Pr) (ma' ea' : Option Addr) (mc' ec' lm' le' : Nat) (r' : Pr) (w : World) (h : RecAt w ma mc ea ec r) (hlm : r.mem.length = lm) (hle : r.ents.length = le) (h' : RecAt w ma' mc' ea' ec' r') (hlm' : r'.mem.length = lm') (hle' : r'.ents.length = le') (h0 : lm ≤ 40) (h2 : le ≤ 30) (h0' : lm' ≤ 40) (h2' : le' ≤ 30) (hs : sndR r = true) (hs' : sndR r' = true) :
    Calls Try.prog 7 #[.agg #[.int .i64 r.kind, .int .i64 r.epoch, .slice ma lm mc, .int .i64 r.pos, .int .i64 r.last, .slice ea le ec], .agg #[.int .i64 r'.kind, .int .i64 r'.epoch, .slice ma' lm' mc', .int .i64 r'.pos, .int .i64 r'.last, .slice ea' le' ec']] w fun e w' => e = .returned (.bool true) ∧ Below w.heap.size w w' := by
  have HF : Hid (((strB (encR r)).toList == (strB (encR r')).toList) = decide (encR r = encR r')) := strB_beq ((small_of hs).bytes h.wf) ((small_of hs').bytes h'.wf)
  have HSM := Lib.hid (small_of hs)
  have HSM' := Lib.hid (small_of hs')
  have hd : decide ((30 : Int) < (le : Int)) = false := by simp; omega
  have hd2 : decide ((30 : Int) < (le' : Int)) = false := by simp; omega
  have hd3 : decide ((40 : Int) < (lm : Int)) = false := by simp; omega
  have hd4 : decide ((40 : Int) < (lm' : Int)) = false := by simp; omega
  have E0 : Hid (Ext w ((w.alloc (.cells #[.int .i64 r.kind, .int .i64 r.epoch, .slice ma lm mc, .int .i64 r.pos, .int .i64 r.last, .slice ea le ec] 27)).alloc (.cells #[.int .i64 r'.kind, .int .i64 r'.epoch, .slice ma' lm' mc', .int .i64 r'.pos, .int .i64 r'.last, .slice ea' le' ec'] 27))) := (below_one w _).alloc (by simp) _
  have HX : Hid (Box ((w.alloc (.cells #[.int .i64 r.kind, .int .i64 r.epoch, .slice ma lm mc, .int .i64 r.pos, .int .i64 r.last, .slice ea le ec] 27)).alloc (.cells #[.int .i64 r'.kind, .int .i64 r'.epoch, .slice ma' lm' mc', .int .i64 r'.pos, .int .i64 r'.last, .slice ea' le' ec'] 27)) w.heap.size #[.int .i64 r.kind, .int .i64 r.epoch, .slice ma lm mc, .int .i64 r.pos, .int .i64 r.last, .slice ea le ec]) := (box_new w _ _ _ rfl).below (below_one _ _)
  have HX' : Hid (Box ((w.alloc (.cells #[.int .i64 r.kind, .int .i64 r.epoch, .slice ma lm mc, .int .i64 r.pos, .int .i64 r.last, .slice ea le ec] 27)).alloc (.cells #[.int .i64 r'.kind, .int .i64 r'.epoch, .slice ma' lm' mc', .int .i64 r'.pos, .int .i64 r'.last, .slice ea' le' ec'] 27)) (w.heap.size + 1) #[.int .i64 r'.kind, .int .i64 r'.epoch, .slice ma' lm' mc', .int .i64 r'.pos, .int .i64 r'.last, .slice ea' le' ec']) := box_new _ _ _ _ (by simp)
  have HR := Lib.hid (h.below E0.out)
  have HR' := Lib.hid (h'.below E0.out)
  have HLM := Lib.hid hlm
  have HLE := Lib.hid hle
  have HLM' := Lib.hid hlm'
  have HLE' := Lib.hid hle'
  have HS := Lib.hid hs
  have HS' := Lib.hid hs'
  clear h h' hlm hle hlm' hle' hs hs'
  have SR := Lib.hid (fun (x : World) (k : RecAt x ma mc ea ec r) (k' : RecAt x ma' mc' ea' ec' r') => sameRec_any ma ea mc ec lm le r ma' ea' mc' ec' lm' le' r' x k HLM.out HLE.out HSM.out k' HLM'.out HLE'.out HSM'.out)
  generalize decide (encR r = encR r') = ans at *
  have HA : Hid ((ans == ans) = true) := by show _ = _; simp
  obtain ⟨q, hq⟩ : ∃ q, (encR r).length = q := ⟨_, rfl⟩
  obtain ⟨q', hq'⟩ : ∃ q, (encR r').length = q := ⟨_, rfl⟩
  have Q := Lib.hid hq
  have Q' := Lib.hid hq'
  clear hq hq'
  have ST := Lib.hid (fun (w' : World) x c (h : SeenAt w' x c (encR r)) => str_at h Q.out)
  have ST' := Lib.hid (fun (w' : World) x c (h : SeenAt w' x c (encR r')) => str_at h Q'.out)
  generalize strB (encR r) = sr at *
  generalize strB (encR r') = sr' at *
  go_enter Try.func7, Try.ntmps7
  go_wp2_with fail
  generalize ((w.alloc (.cells #[.int .i64 r.kind, .int .i64 r.epoch, .slice ma lm mc, .int .i64 r.pos, .int .i64 r.last, .slice ea le ec] 27)).alloc (.cells #[.int .i64 r'.kind, .int .i64 r'.epoch, .slice ma' lm' mc', .int .i64 r'.pos, .int .i64 r'.last, .slice ea' le' ec'] 27)) = w0 at *
  refine (encode_yes _ _ _ _ _ _ r _ HR.out HLM.out HLE.out HS.out).mono ?_
  rintro e w1 ⟨g1, c1, rfl, ho1, hb1⟩
  rw [Q.out]
  have E1 := Lib.hid (E0.out.trans hb1)
  have HO1 := Lib.hid ho1.seenAt
  have HR1 := Lib.hid (HR.out.below hb1)
  have HR1' := Lib.hid (HR'.out.below hb1)
  have HX1 := Lib.hid (HX.out.below hb1)
  have HX1' := Lib.hid (HX'.out.below hb1)
  obtain ⟨x0, x1, x2, x3, x4, x5⟩ := box6 HX1'.out
  clear hb1 E0 HX HX' HR HR' ho1
  go_wp2_with fail
  clear x0 x1 x2 x3 x4 x5
  refine (encode_yes _ _ _ _ _ _ r' _ HR1'.out HLM'.out HLE'.out HS'.out).mono ?_
  rintro e w2 ⟨g2, c2, rfl, ho2, hb2⟩
  rw [Q'.out]
  have E2 := Lib.hid (E1.out.trans hb2)
  have hbd : Ext w2 w2.drew := (Below.refl _ _).drew
  have HO3 := Lib.hid ((HO1.out.below hb2).below hbd)
  have HO3' := Lib.hid (ho2.seenAt.below hbd)
  have HR3 := Lib.hid ((HR1.out.below hb2).below hbd)
  have HR3' := Lib.hid ((HR1'.out.below hb2).below hbd)
  have HX3 := Lib.hid ((HX1.out.below hb2).below hbd)
  have HX3' := Lib.hid ((HX1'.out.below hb2).below hbd)
  clear hb2 hbd ho2 E1 HO1 HR1 HR1' HX1 HX1'
  go_wp2_with fail
  refine wp_region_ext (by kernel_rfl) ?_
  have E3 : Hid (Ext w w2.drew) := E2.out.drew
  generalize w2.drew = w3 at *
  refine wpAnyH_one (i := 0) rfl (by kernel_rfl) (by rfl) (fun K hK => ?_)
  go_simp
  go_at_call 13
  refine (awake7 _).mono ?_
  rintro e w4 ⟨rfl, hb4⟩
  have E4 := Lib.hid (E3.out.trans hb4)
  have HO4 := Lib.hid (HO3.out.below hb4)
  have HO4' := Lib.hid (HO3'.out.below hb4)
  have HR4 := Lib.hid (HR3.out.below hb4)
  have HR4' := Lib.hid (HR3'.out.below hb4)
  have HX4 := Lib.hid (HX3.out.below hb4)
  have HX4' := Lib.hid (HX3'.out.below hb4)
  clear E2 E3 HO3 HO3' HR3 HR3' HX3 HX3'
  refine hK.out _ _ hb4 ?_
  clear hK K
  clear hb4
  refine wpAnyH_tk (i := 1) 45 (v := ?_) rfl rfl (by kernel_rfl) (by kernel_rfl) (by kernel_rfl) (by rfl) (fun wq hwq => ?_) ?_
  rotate_left
  · (go_simp <;> with_reducible rfl)
  simp only [List.setIfInBounds_toArray, List.set_cons_zero, List.set_cons_succ]
  refine wpAnyH_tk (i := 2) 46 (v := ?_) rfl rfl (by kernel_rfl) (by kernel_rfl) (by kernel_rfl) (by rfl) (fun wq hwq => ?_) ?_
  rotate_left
  · (go_simp <;> with_reducible rfl)
  simp only [List.setIfInBounds_toArray, List.set_cons_zero, List.set_cons_succ]
  refine wpAnyH_tk (i := 3) 47 (v := ?_) rfl rfl (by kernel_rfl) (by kernel_rfl) (by kernel_rfl) (by rfl) (fun wq hwq => ?_) ?_
  rotate_left
  · (go_simp <;> with_reducible rfl)
  simp only [List.setIfInBounds_toArray, List.set_cons_zero, List.set_cons_succ]
  refine wpAnyH_tk (i := 4) 48 (v := ?_) rfl rfl (by kernel_rfl) (by kernel_rfl) (by kernel_rfl) (by rfl) (fun wq hwq => ?_) ?_
  rotate_left
  · (go_simp <;> with_reducible rfl)
  simp only [List.setIfInBounds_toArray, List.set_cons_zero, List.set_cons_succ]
  refine wpAnyH_tk (i := 5) 49 (v := ?_) rfl rfl (by kernel_rfl) (by kernel_rfl) (by kernel_rfl) (by rfl) (fun wq hwq => ?_) ?_
  rotate_left
  · (go_simp <;> with_reducible rfl)
  simp only [List.setIfInBounds_toArray, List.set_cons_zero, List.set_cons_succ]
  refine wpAnyH_tk (i := 6) 50 (v := ?_) rfl rfl (by kernel_rfl) (by kernel_rfl) (by kernel_rfl) (by rfl) (fun wq hwq => ?_) ?_
  rotate_left
  · (go_simp <;> with_reducible rfl)
  simp only [List.setIfInBounds_toArray, List.set_cons_zero, List.set_cons_succ]
  refine wpAnyH_tk (i := 7) 51 (v := ?_) rfl rfl (by kernel_rfl) (by kernel_rfl) (by kernel_rfl) (by rfl) (fun wq hwq => ?_) ?_
  rotate_left
  · (go_simp <;> with_reducible rfl)
  simp only [List.setIfInBounds_toArray, List.set_cons_zero, List.set_cons_succ]
  refine wpAnyH_tk (i := 8) 52 (v := ?_) rfl rfl (by kernel_rfl) (by kernel_rfl) (by kernel_rfl) (by rfl) (fun wq hwq => ?_) ?_
  rotate_left
  · (go_simp <;> with_reducible rfl)
  simp only [List.setIfInBounds_toArray, List.set_cons_zero, List.set_cons_succ]
  refine wpAnyH_tk (i := 9) 53 (v := ?_) rfl rfl (by kernel_rfl) (by kernel_rfl) (by kernel_rfl) (by rfl) (fun wq hwq => ?_) ?_
  rotate_left
  · (go_simp <;> with_reducible rfl)
  simp only [List.setIfInBounds_toArray, List.set_cons_zero, List.set_cons_succ]
  refine wpAnyH_tk (i := 10) 54 (v := ?_) rfl rfl (by kernel_rfl) (by kernel_rfl) (by kernel_rfl) (by rfl) (fun wq hwq => ?_) ?_
  rotate_left
  · (have hx := ST.out wq _ _ (HO4.out.below hwq); go_simp <;> with_reducible rfl)
  simp only [List.setIfInBounds_toArray, List.set_cons_zero, List.set_cons_succ]
  refine wpAnyH_tk (i := 11) 55 (v := ?_) rfl rfl (by kernel_rfl) (by kernel_rfl) (by kernel_rfl) (by rfl) (fun wq hwq => ?_) ?_
  rotate_left
  · (go_simp <;> with_reducible rfl)
  simp only [List.setIfInBounds_toArray, List.set_cons_zero, List.set_cons_succ]
  refine wpAnyH_tk (i := 12) 56 (v := ?_) rfl rfl (by kernel_rfl) (by kernel_rfl) (by kernel_rfl) (by rfl) (fun wq hwq => ?_) ?_
  rotate_left
  · (have hx := ST'.out wq _ _ (HO4'.out.below hwq); go_simp <;> with_reducible rfl)
  simp only [List.setIfInBounds_toArray, List.set_cons_zero, List.set_cons_succ]
  refine wpAnyH_tk (i := 13) 57 (v := ?_) rfl rfl (by kernel_rfl) (by kernel_rfl) (by kernel_rfl) (by rfl) (fun wq hwq => ?_) ?_
  rotate_left
  · (have hx := HF.out; go_simp <;> with_reducible rfl)
  simp only [List.setIfInBounds_toArray, List.set_cons_zero, List.set_cons_succ]
  refine wpAnyH_tk (i := 14) 58 (v := ?_) rfl rfl (by kernel_rfl) (by kernel_rfl) (by kernel_rfl) (by rfl) (fun wq hwq => ?_) ?_
  rotate_left
  · (obtain ⟨x0, x1, x2, x3, x4, x5⟩ := box6 ((HX4.out).below hwq); go_simp <;> with_reducible rfl)
  simp only [List.setIfInBounds_toArray, List.set_cons_zero, List.set_cons_succ]
  refine wpAnyH_tk (i := 15) 59 (v := ?_) rfl rfl (by kernel_rfl) (by kernel_rfl) (by kernel_rfl) (by rfl) (fun wq hwq => ?_) ?_
  rotate_left
  · (obtain ⟨x0, x1, x2, x3, x4, x5⟩ := box6 ((HX4'.out).below hwq); go_simp <;> with_reducible rfl)
  simp only [List.setIfInBounds_toArray, List.set_cons_zero, List.set_cons_succ]
  refine wpAnyH_one (i := 16) rfl (by kernel_rfl) (by rfl) (fun K hK => ?_)
  go_simp
  refine (SR.out _ HR4.out HR4'.out).mono ?_
  rintro e w5 ⟨rfl, hb5⟩
  have E5 := Lib.hid (E4.out.trans hb5)
  refine hK.out _ _ hb5 ?_
  clear hK K
  clear hb5
  refine wpAnyH_tk (i := 17) 61 (v := ?_) rfl rfl (by kernel_rfl) (by kernel_rfl) (by kernel_rfl) (by rfl) (fun wq hwq => ?_) ?_
  rotate_left
  · (have hx := HA.out; go_simp <;> with_reducible rfl)
  simp only [List.setIfInBounds_toArray, List.set_cons_zero, List.set_cons_succ]
  refine wpAnyH_tk (i := 18) 62 (v := ?_) rfl rfl (by kernel_rfl) (by kernel_rfl) (by kernel_rfl) (by rfl) (fun wq hwq => ?_) ?_
  rotate_left
  · (go_simp <;> with_reducible rfl)
  simp only [List.setIfInBounds_toArray, List.set_cons_zero, List.set_cons_succ]
  refine wpAnyH_tk (i := 19) 63 (v := ?_) rfl rfl (by kernel_rfl) (by kernel_rfl) (by kernel_rfl) (by rfl) (fun wq hwq => ?_) ?_
  rotate_left
  · (go_simp <;> with_reducible rfl)
  simp only [List.setIfInBounds_toArray, List.set_cons_zero, List.set_cons_succ]
  refine wpAnyH_tk (i := 20) 4 (v := ?_) rfl rfl (by kernel_rfl) (by kernel_rfl) (by kernel_rfl) (by rfl) (fun wq hwq => ?_) ?_
  rotate_left
  · (go_simp <;> with_reducible rfl)
  simp only [List.setIfInBounds_toArray, List.set_cons_zero, List.set_cons_succ]
  refine wpAnyH_done (by kernel_rfl) ?_ _
  refine NoPanic.normal ?_
  go_wp2
  go_ret
  exact ⟨rfl, E5.out⟩

theorem entryUnlike_walk (ma ea : Option Addr) (mc ec : Nat) (r : Pr) (ma' ea' : Option Addr) (mc' ec' : Nat) (r' : Pr) (w : World) (h : RecAt w ma mc ea ec r) (h' : RecAt w ma' mc' ea' ec' r') :
    Calls Try.prog 7 #[.agg #[.int .i64 r.kind, .int .i64 r.epoch, .slice ma r.mem.length mc, .int .i64 r.pos, .int .i64 r.last, .slice ea r.ents.length ec], .agg #[.int .i64 r'.kind, .int .i64 r'.epoch, .slice ma' r'.mem.length mc', .int .i64 r'.pos, .int .i64 r'.last, .slice ea' r'.ents.length ec']] w fun e w' => e = .returned (.bool true) ∧ Below w.heap.size w w' := by
  have h0 : r.mem.length ≤ maxLen := by have := h.mem.le; have := h.mem.max; omega
  have h2 : r.ents.length ≤ maxLen := by have := h.ents.le; have := h.ents.max; omega
  have h0' : r'.mem.length ≤ maxLen := by have := h'.mem.le; have := h'.mem.max; omega
  have h2' : r'.ents.length ≤ maxLen := by have := h'.ents.le; have := h'.ents.max; omega
  by_cases hlong : 30 < r.ents.length ∨ 30 < r'.ents.length ∨ 40 < r.mem.length ∨ 40 < r'.mem.length
  · exact entryUnlike_long ma ea mc ec _ _ _ _ _ _ ma' ea' mc' ec' _ _ _ _ _ _ w hlong h0 h2 h0' h2'
  · cases hs : sndR r with
    | false => exact entryUnlike_n ma ea mc ec _ _ r ma' ea' mc' ec' _ _ r' w h rfl rfl h' rfl rfl (by omega) (by omega) (by omega) (by omega) hs trivial
    | true =>
      cases hs' : sndR r' with
      | false => exact entryUnlike_yn ma ea mc ec _ _ r ma' ea' mc' ec' _ _ r' w h rfl rfl h' rfl rfl (by omega) (by omega) (by omega) (by omega) hs hs'
      | true => exact entryUnlike_yy ma ea mc ec _ _ r ma' ea' mc' ec' _ _ r' w h rfl rfl h' rfl rfl (by omega) (by omega) (by omega) (by omega) hs hs'

end Go.Proofs.Ytjegidnlnjgbkaa
