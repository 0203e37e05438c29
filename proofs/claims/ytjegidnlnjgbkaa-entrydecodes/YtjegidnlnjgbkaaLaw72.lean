/-
  The walk of the law EntryDecodes.
-/
import Derived.Test.YtjegidnlnjgbkaaLaw71
import Derived.Deep.DeepCutAuto
namespace Go.Proofs.Ytjegidnlnjgbkaa
open Go.RowKit



/-- What is told of bytes that are a record's. -/
theorem decode_told (a : Option Addr) (c l : Nat) (ps : List Nat) (x : World) (hl : ps.length = l) (hm : l ≤ 100000000) (h : SeenAt x a c ps) (hyes : decB ps = true) :
    Calls Try.prog 16 #[.slice a l c] x fun e w' => ∃ (r : Pr) (ma ea : Option Addr) (mc ec lm le : Nat), e = .returned (.tuple #[.agg #[.int .i64 r.kind, .int .i64 r.epoch, .slice ma lm mc, .int .i64 r.pos, .int .i64 r.last, .slice ea le ec], .int .i64 0]) ∧ RecAt w' ma mc ea ec r ∧ r.mem.length = lm ∧ r.ents.length = le ∧ sndR r = true ∧ encR r = ps ∧ Below x.heap.size x w' :=
  (decode_yes a c l ps x hl hm h hyes).mono fun e w' h' => by
    obtain ⟨ma, mc, ea, ec, he, hk, hb⟩ := h'
    obtain ⟨k1, _, k3⟩ := dec_can ps h.byte hyes
    exact ⟨decR ps, ma, ea, mc, ec, _, _, he, hk [] w' (Chg.of_below (Below.refl _ _)) (by simp), rfl, rfl, k1, k3, hb⟩

/-- Nothing is the same as nothing. -/
theorem sameRec_zero (x : World) :
    Calls Try.prog 18 #[.agg #[.int .i64 0, .int .i64 0, .slice none 0 0, .int .i64 0, .int .i64 0, .slice none 0 0], .agg #[.int .i64 0, .int .i64 0, .slice none 0 0, .int .i64 0, .int .i64 0, .slice none 0 0]] x fun e w' => e = .returned (.bool true) ∧ Below x.heap.size x w' :=
  sameRec_self none none none none 0 0 0 0 0 0 pr0 x ⟨IntsAt.nil (Nat.zero_le _), EnsAt.nil (Nat.zero_le _), wf_0⟩ ⟨IntsAt.nil (Nat.zero_le _), EnsAt.nil (Nat.zero_le _), wf_0⟩ rfl rfl small_0

theorem refRec_yes (ma ea : Option Addr) (mc ec lm le : Nat) (r : Pr) (w : World) (h : RecAt w ma mc ea ec r) (hlm : r.mem.length = lm) (hle : r.ents.length = le) (hyes : sndR r = true) :
    Calls Try.prog 15 #[.agg #[.int .i64 r.kind, .int .i64 r.epoch, .slice ma lm mc, .int .i64 r.pos, .int .i64 r.last, .slice ea le ec]] w fun e w' => e = .returned (.bool true) ∧ Below w.heap.size w w' :=
  (refRec_any ma ea mc ec lm le r w h hlm hle).mono fun e w' hx => by rw [hyes] at hx; exact hx

/-- The first bytes, 3000 at most. -/
def Clamped7 (w : World) (a : Option Addr) (c : Nat) (v : Value) : Prop := ∃ (l : Nat) (qs : List Nat), v = .slice a l c ∧ l ≤ 3000 ∧ qs.length = l ∧ SeenAt w a c qs

set_option maxRecDepth 100000 in
set_option maxHeartbeats 2000000 in
theorem entryDecodes_walk (a0 : Option Addr) (len0 cap0 : Nat) (m0 : List Nat) (w : World) (w0 : m0.length = len0 ∧ SeenAt w a0 cap0 m0) :
    Calls Try.prog 4 #[.slice a0 len0 cap0] w fun e w' => e = .returned (.bool true) ∧ Below w.heap.size w w' := by
  have h0 : len0 ≤ maxLen := by have := w0.1; have := w0.2.le; have := w0.2.max; omega
  have hc0 : len0 ≤ cap0 := by have := w0.1; have := w0.2.le; omega
  have hm0 : cap0 ≤ maxLen := w0.2.max
  unfold maxLen at h0 hm0
  have H0 := Lib.hid w0.1
  have S0 := Lib.hid w0.2
  clear w0
  go_enter Try.func4, Try.ntmps4
  go_upto_if 7 with fail
  go_cut [0, 7] (fun s _ wx => Clamped7 w a0 cap0 s ∧ wx = w)
  case first =>
    by_cases h500 : 3000 < len0
    · have d1 : decide ((3000 : Int) < (len0 : Int)) = true := by simp; omega
      obtain ⟨b, off, e, _⟩ := S0.out.cell 0 (by rw [H0.out]; omega)
      subst e
      have hcc : 3000 ≤ cap0 := by omega
      have HTK := Lib.hid (S0.out.take 3000)
      have HTL : Hid ((m0.take 3000).length = 3000) := by show _ = _; rw [List.length_take, H0.out]; omega
      go_wp2_with fail
      go_meet
      exact ⟨⟨3000, m0.take 3000, rfl, by omega, HTL.out, HTK.out⟩, rfl⟩
    · have d1 : decide ((3000 : Int) < (len0 : Int)) = false := by simp; omega
      go_wp2_with fail
      go_meet
      exact ⟨⟨len0, m0, rfl, by omega, H0.out, S0.out⟩, rfl⟩
  case rest =>
  obtain ⟨⟨l, ps, rfl, hl5, hl, hs⟩, hw⟩ := hcut
  obtain rfl := hw.symm
  have HL := Lib.hid hl
  have HS := Lib.hid hs
  clear hl hs H0 S0 h0 hc0
  cases hdec : decB ps with
  | false =>
    have HN := Lib.hid hdec
    clear hdec
    go_wp2_with fail
    refine (decode_no _ _ _ ps _ HL.out (by omega) HS.out HN.out).mono ?_
    rintro e w1 ⟨rfl, hb1⟩
    have hb2 := below_one w1 (.cells #[.int .i64 0, .int .i64 0, .slice none 0 0, .int .i64 0, .int .i64 0, .slice none 0 0] 27)
    have HX2 : Hid (Box (w1.alloc (.cells #[.int .i64 0, .int .i64 0, .slice none 0 0, .int .i64 0, .int .i64 0, .slice none 0 0] 27)) w1.heap.size #[.int .i64 0, .int .i64 0, .slice none 0 0, .int .i64 0, .int .i64 0, .slice none 0 0]) := box_new _ _ _ _ rfl
    have E2 := Lib.hid ((Ext.trans hb1 hb2))
    clear hb1 hb2
    go_wp2_with fail
    refine (awake7 _).mono ?_
    rintro e w3 ⟨rfl, hb3⟩
    have E3 := Lib.hid (E2.out.trans hb3)
    obtain ⟨x0, x1, x2, x3, x4, x5⟩ := box6 (HX2.out.below hb3)
    clear hb3
    go_wp2_with fail
    clear x0 x1 x2 x3 x4 x5
    refine (sameRec_zero _).mono ?_
    rintro e w4 ⟨rfl, hb4⟩
    have E4 := Lib.hid (E3.out.trans hb4)
    clear hb4
    go_wp2
    go_ret
    exact ⟨rfl, E4.out⟩
  | true =>
    have HY := Lib.hid hdec
    clear hdec
    have HFF : Hid (((strB ps).toList == (strB ps).toList) = true) := by show _ = _; simp
    have ST := Lib.hid (fun (w' : World) x c (h : SeenAt w' x c ps) => str_at h HL.out)
    go_wp2_with fail
    refine (decode_told _ _ _ ps _ HL.out (by omega) HS.out HY.out).mono ?_
    rintro e w1 ⟨r, ma, ea, mc, ec, lm, le, rfl, hk1, hlm, hle, hsn, hen, hb1⟩
    have hbx : Ext w1 (w1.alloc (.cells #[.int .i64 r.kind, .int .i64 r.epoch, .slice ma lm mc, .int .i64 r.pos, .int .i64 r.last, .slice ea le ec] 27)).drew := (below_one w1 _).drew
    have HX2 : Hid (Box (w1.alloc (.cells #[.int .i64 r.kind, .int .i64 r.epoch, .slice ma lm mc, .int .i64 r.pos, .int .i64 r.last, .slice ea le ec] 27)).drew w1.heap.size #[.int .i64 r.kind, .int .i64 r.epoch, .slice ma lm mc, .int .i64 r.pos, .int .i64 r.last, .slice ea le ec]) := (box_new _ _ _ _ rfl).below ((Below.refl _ _).drew)
    have E2 := Lib.hid (Ext.trans hb1 hbx)
    have HR2 := Lib.hid (hk1.below hbx)
    have HO2 := Lib.hid ((HS.out.below hb1).below hbx)
    have HLM := Lib.hid hlm
    have HLE := Lib.hid hle
    have HSN := Lib.hid hsn
    have HSM := Lib.hid (small_of hsn)
    have HEN := Lib.hid hen
    clear hb1 hbx hk1 hlm hle hsn hen
    generalize strB ps = sr at *
    go_wp2_with fail
    refine wp_region_ext (by kernel_rfl) ?_
    generalize w1.heap.size = B1 at *
    generalize (w1.alloc (.cells #[.int .i64 r.kind, .int .i64 r.epoch, .slice ma lm mc, .int .i64 r.pos, .int .i64 r.last, .slice ea le ec] 27)).drew = w2 at *
    refine wpAnyH_one (i := 0) rfl (by kernel_rfl) (by rfl) (fun K hK => ?_)
    go_simp
    go_at_call 13
    refine (awake7 _).mono ?_
    rintro e w3 ⟨rfl, hb3⟩
    have E3 := Lib.hid (E2.out.trans hb3)
    have HR3 := Lib.hid (HR2.out.below hb3)
    have HO3 := Lib.hid (HO2.out.below hb3)
    have HX3 := Lib.hid (HX2.out.below hb3)
    clear E2 HR2 HO2 HX2
    refine hK.out _ _ hb3 ?_
    clear hK K
    clear hb3
    refine wpAnyH_tk (i := 1) 28 (v := ?_) rfl rfl (by kernel_rfl) (by kernel_rfl) (by kernel_rfl) (by rfl) (fun wq hwq => ?_) ?_
    rotate_left
    · (go_simp <;> with_reducible rfl)
    simp only [List.setIfInBounds_toArray, List.set_cons_zero, List.set_cons_succ]
    refine wpAnyH_tk (i := 2) 29 (v := ?_) rfl rfl (by kernel_rfl) (by kernel_rfl) (by kernel_rfl) (by rfl) (fun wq hwq => ?_) ?_
    rotate_left
    · (obtain ⟨x0, x1, x2, x3, x4, x5⟩ := box6 ((HX3.out).below hwq); go_simp <;> with_reducible rfl)
    simp only [List.setIfInBounds_toArray, List.set_cons_zero, List.set_cons_succ]
    refine wpAnyH_one (i := 3) rfl (by kernel_rfl) (by rfl) (fun K hK => ?_)
    go_simp
    refine (refRec_yes _ _ _ _ _ _ r _ HR3.out HLM.out HLE.out HSN.out).mono ?_
    rintro e w4 ⟨rfl, hb4⟩
    have E4 := Lib.hid (E3.out.trans hb4)
    have HR4 := Lib.hid (HR3.out.below hb4)
    have HO4 := Lib.hid (HO3.out.below hb4)
    have HX4 := Lib.hid (HX3.out.below hb4)
    clear E3 HR3 HO3 HX3
    refine hK.out _ _ hb4 ?_
    clear hK K
    clear hb4
    refine wpAnyH_tk (i := 4) 31 (v := ?_) rfl rfl (by kernel_rfl) (by kernel_rfl) (by kernel_rfl) (by rfl) (fun wq hwq => ?_) ?_
    rotate_left
    · (go_simp <;> with_reducible rfl)
    simp only [List.setIfInBounds_toArray, List.set_cons_zero, List.set_cons_succ]
    refine wpAnyH_tk (i := 5) 32 (v := ?_) rfl rfl (by kernel_rfl) (by kernel_rfl) (by kernel_rfl) (by rfl) (fun wq hwq => ?_) ?_
    rotate_left
    · (go_simp <;> with_reducible rfl)
    simp only [List.setIfInBounds_toArray, List.set_cons_zero, List.set_cons_succ]
    refine wpAnyH_tk (i := 6) 33 (v := ?_) rfl rfl (by kernel_rfl) (by kernel_rfl) (by kernel_rfl) (by rfl) (fun wq hwq => ?_) ?_
    rotate_left
    · (obtain ⟨x0, x1, x2, x3, x4, x5⟩ := box6 ((HX4.out).below hwq); go_simp <;> with_reducible rfl)
    simp only [List.setIfInBounds_toArray, List.set_cons_zero, List.set_cons_succ]
    refine wpAnyH_tk (i := 9) 36 (v := ?_) rfl rfl (by kernel_rfl) (by kernel_rfl) (by kernel_rfl) (by rfl) (fun wq hwq => ?_) ?_
    rotate_left
    · (go_simp <;> with_reducible rfl)
    simp only [List.setIfInBounds_toArray, List.set_cons_zero, List.set_cons_succ]
    refine wpAnyH_tk (i := 10) 37 (v := ?_) rfl rfl (by kernel_rfl) (by kernel_rfl) (by kernel_rfl) (by rfl) (fun wq hwq => ?_) ?_
    rotate_left
    · (have hx := ST.out wq _ _ (HO4.out.below hwq); go_simp <;> with_reducible rfl)
    simp only [List.setIfInBounds_toArray, List.set_cons_zero, List.set_cons_succ]
    refine wpAnyH_one (i := 7) rfl (by kernel_rfl) (by rfl) (fun K hK => ?_)
    go_simp
    refine (record_own _ _ _ _ _ _ r _ HR4.out HLM.out HLE.out HSM.out).mono ?_
    rw [HEN.out]
    rintro e w5 ⟨g5, c5, rfl, ho5, hb5⟩
    have E5 := Lib.hid (E4.out.trans hb5)
    have HO5 := Lib.hid ho5.seenAt
    clear E4 HR4 HO4 HX4 ho5
    rw [HL.out]
    refine hK.out _ _ hb5 ?_
    clear hK K
    clear hb5
    refine wpAnyH_tk (i := 8) 35 (v := ?_) rfl rfl (by kernel_rfl) (by kernel_rfl) (by kernel_rfl) (by rfl) (fun wq hwq => ?_) ?_
    rotate_left
    · (have hx := ST.out wq _ _ (HO5.out.below hwq); go_simp <;> with_reducible rfl)
    simp only [List.setIfInBounds_toArray, List.set_cons_zero, List.set_cons_succ]
    refine wpAnyH_tk (i := 11) 38 (v := ?_) rfl rfl (by kernel_rfl) (by kernel_rfl) (by kernel_rfl) (by rfl) (fun wq hwq => ?_) ?_
    rotate_left
    · (have hx := HFF.out; go_simp <;> with_reducible rfl)
    simp only [List.setIfInBounds_toArray, List.set_cons_zero, List.set_cons_succ]
    refine wpAnyH_tk (i := 12) 39 (v := ?_) rfl rfl (by kernel_rfl) (by kernel_rfl) (by kernel_rfl) (by rfl) (fun wq hwq => ?_) ?_
    rotate_left
    · (go_simp <;> with_reducible rfl)
    simp only [List.setIfInBounds_toArray, List.set_cons_zero, List.set_cons_succ]
    refine wpAnyH_tk (i := 13) 2 (v := ?_) rfl rfl (by kernel_rfl) (by kernel_rfl) (by kernel_rfl) (by rfl) (fun wq hwq => ?_) ?_
    rotate_left
    · (go_simp <;> with_reducible rfl)
    simp only [List.setIfInBounds_toArray, List.set_cons_zero, List.set_cons_succ]
    refine wpAnyH_done (by kernel_rfl) ?_ _
    refine NoPanic.normal ?_
    go_wp2
    go_ret
    exact ⟨rfl, E5.out⟩

end Go.Proofs.Ytjegidnlnjgbkaa
