/-
  The walk of the law BookTears.
-/
import Derived.Test.YtfcjnhcolkpppaaGood9
import Derived.Deep.DeepCutAuto
namespace Go.Proofs.Ytfcjnhcolkpppaa
open Go.RowKit






theorem small_yes {le lm : Nat} (h : le ≤ 6 ∧ lm ≤ 40) : (decide (le ≤ 6) && decide (lm ≤ 40)) = true := by simp [h]
theorem small_no {le lm : Nat} (h : ¬(le ≤ 6 ∧ lm ≤ 40)) : (decide (le ≤ 6) && decide (lm ≤ 40)) = false := by
  rw [Bool.and_eq_false_iff]
  simp
  omega

/-- The two records of the law in their boxes, the list of the law: what stays where it was. -/
structure Fix (w : World) (B5 B6 : Nat) (r : Pr) (ma : Option Addr) (lm mc : Nat) (ea : Option Addr) (le ec : Nat) (r' : Pr) (ma' : Option Addr) (lm' mc' : Nat) (ea' : Option Addr) (le' ec' : Nat) (a0 : Option Addr) (cap0 : Nat) (m0 : List Rl) : Prop where
  b5 : R6 w B5 0 r ma lm mc ea le ec
  b6 : R6 w B6 0 r' ma' lm' mc' ea' le' ec'
  ok : RecAt w ma mc ea ec r
  ok' : RecAt w ma' mc' ea' ec' r'
  list : RcA w a0 cap0 m0

theorem Fix.below {w w' : World} {B5 B6 : Nat} {r : Pr} {ma : Option Addr} {lm mc : Nat} {ea : Option Addr} {le ec : Nat} {r' : Pr} {ma' : Option Addr} {lm' mc' : Nat} {ea' : Option Addr} {le' ec' : Nat} {a0 : Option Addr} {cap0 : Nat} {m0 : List Rl}
    (h : Fix w B5 B6 r ma lm mc ea le ec r' ma' lm' mc' ea' le' ec' a0 cap0 m0) (hb : Below w.heap.size w w') : Fix w' B5 B6 r ma lm mc ea le ec r' ma' lm' mc' ea' le' ec' a0 cap0 m0 :=
  ⟨h.b5.below hb, h.b6.below hb, h.ok.below hb, h.ok'.below hb, h.list.below hb⟩

set_option maxRecDepth 100000 in
set_option maxHeartbeats 4000000 in
theorem bookTears_no (a0 : Option Addr) (len0 cap0 : Nat) (ma ea : Option Addr) (mc ec lm le : Nat) (r : Pr) (ma' ea' : Option Addr) (mc' ec' lm' le' : Nat) (r' : Pr) (N : Int) (w : World) (h1 : RecAt w ma mc ea ec r) (hlm : r.mem.length = lm) (hle : r.ents.length = le)
    (h2 : RecAt w ma' mc' ea' ec' r') (hlm' : r'.mem.length = lm') (hle' : r'.ents.length = le') (hno : ¬((le ≤ 6 ∧ lm ≤ 40) ∧ (le' ≤ 6 ∧ lm' ≤ 40) ∧ sndR r = true ∧ sndR r' = true)) :
    Calls Try.prog 6 #[.slice a0 len0 cap0, .agg #[.int .i64 r.kind, .int .i64 r.epoch, .slice ma lm mc, .int .i64 r.pos, .int .i64 r.last, .slice ea le ec], .agg #[.int .i64 r'.kind, .int .i64 r'.epoch, .slice ma' lm' mc', .int .i64 r'.pos, .int .i64 r'.last, .slice ea' le' ec'], .int .u16 N] w fun e w' => e = .returned (.bool true) ∧ Below w.heap.size w w' := by
  have E0 : Hid (Ext w ((w.alloc (.cells #[.int .i64 r.kind, .int .i64 r.epoch, .slice ma lm mc, .int .i64 r.pos, .int .i64 r.last, .slice ea le ec] 36)).alloc (.cells #[.int .i64 r'.kind, .int .i64 r'.epoch, .slice ma' lm' mc', .int .i64 r'.pos, .int .i64 r'.last, .slice ea' le' ec'] 36))) := Ext.trans (below_one _ _) (below_one _ _)
  have HB5 := Lib.hid ((r6_new w r ma ea lm mc le ec w.heap.size rfl).below (below_one _ (.cells #[.int .i64 r'.kind, .int .i64 r'.epoch, .slice ma' lm' mc', .int .i64 r'.pos, .int .i64 r'.last, .slice ea' le' ec'] 36)))
  have HB6 := Lib.hid (r6_new (w.alloc (.cells #[.int .i64 r.kind, .int .i64 r.epoch, .slice ma lm mc, .int .i64 r.pos, .int .i64 r.last, .slice ea le ec] 36)) r' ma' ea' lm' mc' le' ec' (w.heap.size + 1) (by simp))
  have HR1 := Lib.hid (h1.below E0.out)
  have HR2 := Lib.hid (h2.below E0.out)
  have HLM := Lib.hid hlm
  have HLE := Lib.hid hle
  have HLM' := Lib.hid hlm'
  have HLE' := Lib.hid hle'
  clear h1 h2 hlm hle hlm' hle'
  go_enter Try.func6, Try.ntmps6
  go_upto_region 1 with fail
  generalize ((w.alloc (.cells #[.int .i64 r.kind, .int .i64 r.epoch, .slice ma lm mc, .int .i64 r.pos, .int .i64 r.last, .slice ea le ec] 36)).alloc (.cells #[.int .i64 r'.kind, .int .i64 r'.epoch, .slice ma' lm' mc', .int .i64 r'.pos, .int .i64 r'.last, .slice ea' le' ec'] 36)) = w0 at *
  have x0 := HB5.out.c0
  have x1 := HB5.out.c1
  have x2 := HB5.out.c2
  have x3 := HB5.out.c3
  have x4 := HB5.out.c4
  have x5 := HB5.out.c5
  go_wp2_with fail
  refine (small_any _ _ _ _ lm le _ _ _ _ _).mono ?_
  rintro e w1 ⟨rfl, hb1⟩
  have E1 := Lib.hid (E0.out.trans hb1)
  have HC5 := Lib.hid (HB5.out.below hb1)
  have HC6 := Lib.hid (HB6.out.below hb1)
  have HS1 := Lib.hid (HR1.out.below hb1)
  have HS2 := Lib.hid (HR2.out.below hb1)
  clear x0 x1 x2 x3 x4 x5
  clear hb1 HB5 HB6 HR1 HR2 E0
  by_cases s1 : le ≤ 6 ∧ lm ≤ 40
  · rw [small_yes s1]
    have y0 := HC6.out.c0
    have y1 := HC6.out.c1
    have y2 := HC6.out.c2
    have y3 := HC6.out.c3
    have y4 := HC6.out.c4
    have y5 := HC6.out.c5
    go_wp2_with fail
    refine (small_any _ _ _ _ lm' le' _ _ _ _ _).mono ?_
    rintro e w2 ⟨rfl, hb2⟩
    have E2 := Lib.hid (E1.out.trans hb2)
    have HD5 := Lib.hid (HC5.out.below hb2)
    have HD6 := Lib.hid (HC6.out.below hb2)
    have HT1 := Lib.hid (HS1.out.below hb2)
    have HT2 := Lib.hid (HS2.out.below hb2)
    clear y0 y1 y2 y3 y4 y5
    clear hb2 HC5 HC6 HS1 HS2 E1
    by_cases s2 : le' ≤ 6 ∧ lm' ≤ 40
    · rw [small_yes s2]
      have x0 := HD5.out.c0
      have x1 := HD5.out.c1
      have x2 := HD5.out.c2
      have x3 := HD5.out.c3
      have x4 := HD5.out.c4
      have x5 := HD5.out.c5
      go_wp2_with fail
      refine (refRec_any _ _ _ _ _ _ r _ HT1.out HLM.out HLE.out).mono ?_
      rintro e w3 ⟨rfl, hb3⟩
      have E3 := Lib.hid (E2.out.trans hb3)
      have HE6 := Lib.hid (HD6.out.below hb3)
      have HU2 := Lib.hid (HT2.out.below hb3)
      clear x0 x1 x2 x3 x4 x5
      clear hb3 HD5 HD6 HT1 HT2 E2
      cases s3 : sndR r with
      | false =>
        go_wp2_with fail
        refine (awake9 _).mono ?_
        rintro e wf ⟨rfl, hbf⟩
        have EF := Lib.hid ((E3).out.trans hbf)
        clear hbf
        go_wp2
        go_ret
        exact ⟨rfl, EF.out⟩
      | true =>
        have y0 := HE6.out.c0
        have y1 := HE6.out.c1
        have y2 := HE6.out.c2
        have y3 := HE6.out.c3
        have y4 := HE6.out.c4
        have y5 := HE6.out.c5
        go_wp2_with fail
        refine (refRec_any _ _ _ _ _ _ r' _ HU2.out HLM'.out HLE'.out).mono ?_
        rintro e w4 ⟨rfl, hb4⟩
        have E4 := Lib.hid (E3.out.trans hb4)
        clear y0 y1 y2 y3 y4 y5
        clear hb4
        rw [show sndR r' = false by
          cases s4 : sndR r' with
          | false => rfl
          | true => exact absurd ⟨s1, s2, s3, s4⟩ hno]
        go_wp2_with fail
        refine (awake9 _).mono ?_
        rintro e wf ⟨rfl, hbf⟩
        have EF := Lib.hid ((E4).out.trans hbf)
        clear hbf
        go_wp2
        go_ret
        exact ⟨rfl, EF.out⟩
    · rw [small_no s2]
      go_wp2_with fail
      refine (awake9 _).mono ?_
      rintro e wf ⟨rfl, hbf⟩
      have EF := Lib.hid ((E2).out.trans hbf)
      clear hbf
      go_wp2
      go_ret
      exact ⟨rfl, EF.out⟩
  · rw [small_no s1]
    go_wp2_with fail
    refine (awake9 _).mono ?_
    rintro e wf ⟨rfl, hbf⟩
    have EF := Lib.hid ((E1).out.trans hbf)
    clear hbf
    go_wp2
    go_ret
    exact ⟨rfl, EF.out⟩

end Go.Proofs.Ytfcjnhcolkpppaa
