/-
  The bytes of records, by the reference: Many, Record; SameRec, Same; bytes.Equal and the program's Same.
-/
import Derived.Test.YtdgpbdedaafdiaaGreatWalksY5
namespace Go.Proofs.YtdgpbdedaafdiaaGreat
open Go.RowKit


/-- Short lists of short entries. -/
structure Small (r : Pr) : Prop where
  mem : r.mem.length ≤ 16
  ents : r.ents.length ≤ 4096
  each : ∀ e ∈ r.ents, e.key.length ≤ 16 ∧ e.frag.length ≤ 256

theorem small_of {r : Pr} (h : sndR r = true) : Small r := by
  obtain ⟨h1, h2, h3⟩ := sndR_lens r h
  exact ⟨h1, h2, fun e he => sndE_lens e (h3 e he)⟩

theorem small_0 : Small pr0 := ⟨by simp [pr0], by simp [pr0], by simp [pr0]⟩

theorem wf_0 : pr0.Wf := ⟨⟨by decide, by decide⟩, ⟨by decide, by decide⟩, by simp [pr0], ⟨by decide, by decide⟩, ⟨by decide, by decide⟩, by simp [pr0]⟩

theorem Small.encL {r : Pr} (h : Small r) : (Go.Proofs.YtdgpbdedaafdiaaGreat.encL encE r.ents).length ≤ 352 * r.ents.length :=
  encL_len encE 352 r.ents fun e he => by have := encE_len e; have := h.each e he; omega

theorem Small.bytes {r : Pr} (h : Small r) (hw : r.Wf) : Gf.Bytes (encR r) := by
  have h1 := h.mem
  have h2 := h.ents
  refine bytes_app' (bytes_app' (encs_bytes _ (hw.five (by omega))) (encs_bytes _ hw.mem)) (bytes_app' (encs_bytes _ ?_) (encL_bytes encE _ fun e he => ?_))
  · intro z hz
    simp at hz
    subst hz
    exact ⟨by omega, by omega⟩
  · have := h.each e he
    exact encE_bytes e (hw.ents e he) (by omega) (by omega)

set_option maxRecDepth 100000 in
set_option maxHeartbeats 1000000 in
theorem many_own (a : Option Addr) (cap l : Nat) (es : List Pe) (w : World) (hl : es.length = l) (h : EnsAt w a cap es) (hm : l ≤ 4096) (he : ∀ e ∈ es, e.key.length ≤ 16 ∧ e.frag.length ≤ 256) :
    Calls Tryz.prog 66 #[.slice a l cap] w (RetO w (encs [(l : Int)] ++ encL encE es)) := by
  have HE := Lib.hid h
  have HL := Lib.hid hl
  have HS := Lib.hid he
  have HEL : Hid ((encL encE es).length ≤ 1441792) := by
    have := encL_len encE 352 es fun e h' => by have := encE_len e; have := he e h'; omega
    show _ ≤ _
    omega
  have HI := Lib.hid (ints_lit w [(l : Int)] #[.int .i64 (l : Int)] 1 w.heap.size rfl rfl rfl (by intro z hz; simp at hz; subst hz; exact ⟨by omega, by omega⟩) (by unfold maxLen; omega))
  clear h hl he
  go_enter Tryz.func66, Tryz.ntmps66
  go_wp2_with fail
  refine (nums_own _ _ 1 _ _ rfl HI.out (by omega)).mono ?_
  rintro e w1 ⟨g1, c1, rfl, ho1, hb1⟩
  have HO1 : Hid (OwnB w1 w.heap.size g1 c1 (encs [(l : Int)] ++ encL encE (es.take 0))) := by
    show OwnB _ _ _ _ _
    rw [List.take_zero, encL_nil, List.append_nil]
    exact ho1.base (by simp)
  have HB1 := Lib.hid ((below_one w _).trans (hb1.mono (by simp)))
  have HL1 : Hid ((encs [(l : Int)]).length ≤ 10) := Nat.le_trans (encs_len _) (by simp)
  clear ho1 hb1 HI
  generalize encs [(l : Int)] = A at *
  generalize hq : A.length = q at *
  have HQ := Lib.hid hq
  clear hq
  go_wp2
  go_loopw [3, 4] (fun v i ws => ∃ (k g c : Nat), k ≤ l ∧ i = .int .i64 k ∧ v = .slice (some ⟨g, 0, none⟩) (A ++ encL encE (es.take k)).length c ∧ Hid (OwnB ws w.heap.size g c (A ++ encL encE (es.take k))) ∧ Hid (Below w.heap.size w ws)) (fun _ i _ => l - (intOf i).toNat)
  case atStart => exact ⟨0, g1, c1, Nat.zero_le _, rfl, by rw [List.take_zero, encL_nil, List.append_nil, HQ.out], HO1, HB1⟩
  case round =>
    obtain ⟨k, g, c, hk, rfl, rfl, HO, HB⟩ := hrel
    by_cases hlt : k < l
    · have j0 : (0 : Int) ≤ (k : Int) := by omega
      have j1 : (k : Int) < (l : Int) := by omega
      obtain ⟨b, off, loc, cc, rfl, hc⟩ := (HE.out.below HB.out).el k (by rw [HL.out]; exact hlt)
      have HWF := Lib.hid (HE.out.wf _ (getD_mem es k pe0 (by rw [HL.out]; exact hlt)))
      have HSL := Lib.hid (HS.out _ (getD_mem es k pe0 (by rw [HL.out]; exact hlt)))
      have HN : Hid (A ++ encL encE (es.take (k + 1)) = (A ++ encL encE (es.take k)) ++ encE (es.getD k pe0)) := by
        show _ = _
        rw [encL_snoc encE es pe0 k (by rw [HL.out]; exact hlt), List.append_assoc]
      have HLT : Hid ((A ++ encL encE (es.take k)).length ≤ 2000000) := by
        have h1 := encL_take encE es k
        have h2 := HEL.out
        have h3 := HQ.out
        have h4 := HL1.out
        show _ ≤ _
        rw [List.length_append]
        omega
      have c0 := hc.c0
      have c1 := hc.c1
      have c2 := hc.c2
      have c3 := hc.c3
      have c4 := hc.c4
      have c5 := hc.c5
      have c6 := hc.c6
      have c7 := hc.c7
      have HSF := Lib.hid hc.seen
      clear hc
      generalize es.getD k pe0 = p at *
      generalize hqa : (A ++ encL encE (es.take k)).length = qa at *
      have HQA := Lib.hid hqa
      clear hqa
      go_wp2_with fail
      refine (one_own p loc cc _ HWF.out (by have := HSL.out; omega) (by have := HSL.out; omega) HSF.out).mono ?_
      rintro e w7 ⟨g7, c7', rfl, ho7, hb7⟩
      have HB7 := Lib.hid (HB.out.trans (hb7.mono HB.out.size))
      have HO7 := Lib.hid (HO.out.chg (gs := []) (Chg.of_below hb7) (by simp))
      have HS7 := Lib.hid ho7.seenAt
      have hgl := HO.out.lt.1
      have HL7 : Hid ((encE p).length ≤ 352) := by have := encE_len p; have := HSL.out; show _ ≤ _; omega
      clear ho7 hb7
      generalize hq7 : (encE p).length = q7 at *
      have HQ7 := Lib.hid hq7
      clear hq7
      go_wp2_with (at_builtin; refine wpList_appB rfl (.tmp 15) (.tmp 20) rfl w.heap.size g c (A ++ encL encE (es.take k)) (encE p) (by rw [HQA.out]; rfl) HO7.out _ _ (by rw [HQ7.out]; rfl) HS7.out (by have := HLT.out; have := HL7.out; have := HQ7.out; have := HQA.out; omega) HB7.out.size ?_; intro g8 c8 w8 ho8 chg8 hg8; rw [← HN.out] at ho8 ⊢)
      have HB8 := Lib.hid (chg8.below HB7.out HB7.out.size (by simp; omega))
      have HO8 := Lib.hid ho8
      clear ho8 chg8 hg8
      go_roundw
      case rel => exact ⟨k + 1, g8, c8, by omega, by go_num, by rw [List.length_append], HO8, HB8⟩
      case measure => simp [intOf]; omega
    · obtain rfl : k = l := by omega
      have HT : Hid (es.take k = es) := List.take_of_length_le (by rw [HL.out]; omega)
      rw [HT.out] at HO ⊢
      have HF : Hid (RetO w (A ++ encL encE es) (.returned (.slice (some ⟨g, 0, none⟩) (A ++ encL encE es).length c)) wr) := ⟨g, c, rfl, HO.out, HB.out⟩
      generalize (A ++ encL encE es).length = q at *
      go_wp2
      go_ret
      exact HF.out

set_option maxRecDepth 100000 in
set_option maxHeartbeats 1000000 in
theorem record_own (ma ea : Option Addr) (mc ec lm le : Nat) (r : Pr) (w : World) (h : RecAt w ma mc ea ec r) (hlm : r.mem.length = lm) (hle : r.ents.length = le) (hs : Small r) :
    Calls Tryz.prog 47 #[.agg #[.int .i64 r.kind, .int .i64 r.epoch, .slice ma lm mc, .int .i64 r.pos, .int .i64 r.last, .slice ea le ec]] w (RetO w (encR r)) := by
  have s1 := hs.mem
  have s2 := hs.ents
  rw [hlm] at s1
  rw [hle] at s2
  have HB0 : Hid (Below w.heap.size w (w.alloc (.cells #[.int .i64 r.kind, .int .i64 r.epoch, .slice ma lm mc, .int .i64 r.pos, .int .i64 r.last, .slice ea le ec] 35))) := below_one w _
  have H0 := Lib.hid h
  have HLM := Lib.hid hlm
  have HLE := Lib.hid hle
  have HSS := Lib.hid hs.each
  have HEE : Hid (encR r = encs [r.kind, r.epoch, r.pos, r.last, (lm : Int)] ++ encs r.mem ++ (encs [(le : Int)] ++ encL encE r.ents)) := by show _ = _; unfold encR; rw [hlm, hle]
  have HEL : Hid ((encs [(le : Int)] ++ encL encE r.ents).length ≤ 1500000) := by
    have h1 := hs.encL
    have h2 : (encs [(le : Int)]).length ≤ 10 := Nat.le_trans (encs_len _) (by simp)
    rw [hle] at h1
    show _ ≤ _
    rw [List.length_append]
    omega
  have HI := Lib.hid (ints_lit (w.alloc (.cells #[.int .i64 r.kind, .int .i64 r.epoch, .slice ma lm mc, .int .i64 r.pos, .int .i64 r.last, .slice ea le ec] 35)) [r.kind, r.epoch, r.pos, r.last, (lm : Int)] #[.int .i64 r.kind, .int .i64 r.epoch, .int .i64 r.pos, .int .i64 r.last, .int .i64 (lm : Int)] 5 (w.heap.size + 1) (by simp) rfl rfl (by have := h.wf.five (by omega); rw [hlm] at this; exact this) (by unfold maxLen; omega))
  clear h hlm hle hs
  go_enter Tryz.func47, Tryz.ntmps47
  go_wp2_with fail
  refine (nums_own _ _ 5 _ _ rfl HI.out (by omega)).mono ?_
  rintro e w2 ⟨g2, c2, rfl, ho2, hb2⟩
  have hb12 := (below_one _ _).trans (hb2.mono (by simp))
  have b22 := box_later hb12 2 (.slice ma lm mc) rfl
  have b25 := box_later hb12 5 (.slice ea le ec) rfl
  have HB2 := Lib.hid (HB0.out.trans (hb12.mono (by simp)))
  have HO2 : Hid (OwnB w2 (w.heap.size + 1) g2 c2 (encs [r.kind, r.epoch, r.pos, r.last, (lm : Int)])) := ho2.base (by simp)
  have HLA : Hid ((encs [r.kind, r.epoch, r.pos, r.last, (lm : Int)]).length ≤ 50) := Nat.le_trans (encs_len _) (by simp)
  have HR2 := Lib.hid (H0.out.below HB2.out)
  clear ho2 hb2 hb12 HI
  generalize encs [r.kind, r.epoch, r.pos, r.last, (lm : Int)] = A at *
  generalize hq : A.length = q at *
  have HQ := Lib.hid hq
  clear hq
  go_wp2_with fail
  refine (nums_own _ _ _ r.mem _ HLM.out HR2.out.mem (by omega)).mono ?_
  rintro e w3 ⟨g3, c3, rfl, ho3, hb3⟩
  have b35 := cell_later hb3 b25
  have HB3 := Lib.hid (HB2.out.trans (hb3.mono HB2.out.size))
  have HO3 := Lib.hid (HO2.out.chg (gs := []) (Chg.of_below hb3) (by simp))
  have HS3 := Lib.hid ho3.seenAt
  have hg2 := HO2.out.lt.1
  have hw3 : w.heap.size < w3.heap.size := World.block_lt_of_cell? w3 ⟨w.heap.size, 5, none⟩ b35
  have HLM2 : Hid ((encs r.mem).length ≤ 160) := by
    have := encs_len r.mem
    rw [HLM.out] at this
    show _ ≤ _
    omega
  clear ho3 hb3 b22 b25
  generalize hqm : (encs r.mem).length = qm at *
  have HQM := Lib.hid hqm
  clear hqm
  go_wp2_with (at_builtin; refine wpList_appB rfl (.tmp 19) (.tmp 23) rfl (w.heap.size + 1) g2 c2 A (encs r.mem) (by rw [HQ.out]; rfl) HO3.out _ _ (by rw [HQM.out]; rfl) HS3.out (by have := HLA.out; have := HQ.out; have := HLM2.out; have := HQM.out; omega) hw3 ?_; intro g4 c4 w4 ho4 chg4 hg4; have b45 := chg4.cell b35 (by simp; omega); have HLA4 : Hid ((A ++ encs r.mem).length ≤ 300) := (by have := HLA.out; have := HQ.out; have := HLM2.out; have := HQM.out; show _ ≤ _; rw [List.length_append]; omega); generalize A ++ encs r.mem = A4 at *; generalize hq4 : A4.length = q4 at *)
  have HQ4 := Lib.hid hq4
  have HB4 := Lib.hid (chg4.below HB3.out HB3.out.size (by simp; omega))
  have HO4 := Lib.hid ho4
  have HR4 := Lib.hid (H0.out.below HB4.out)
  clear hq4 ho4 chg4 hg4 HO3 HO2
  refine (many_own _ _ _ r.ents _ HLE.out HR4.out.ents s2 HSS.out).mono ?_
  rintro e w5 ⟨g5, c5, rfl, ho5, hb5⟩
  have b55 := cell_later hb5 b45
  have HB5 := Lib.hid (HB4.out.trans (hb5.mono HB4.out.size))
  have HO5 := Lib.hid (HO4.out.chg (gs := []) (Chg.of_below hb5) (by simp))
  have HS5 := Lib.hid ho5.seenAt
  have hg4 := HO4.out.lt.1
  have hw5 : w.heap.size < w5.heap.size := World.block_lt_of_cell? w5 ⟨w.heap.size, 5, none⟩ b55
  clear ho5 hb5 b45
  generalize encs [(le : Int)] ++ encL encE r.ents = A5 at *
  generalize hq5 : A5.length = q5 at *
  have HQ5 := Lib.hid hq5
  clear hq5
  go_wp2_with (at_builtin; refine wpList_appB rfl (.tmp 25) (.tmp 28) rfl (w.heap.size + 1) g4 c4 A4 A5 (by rw [HQ4.out]; rfl) HO5.out _ _ (by rw [HQ5.out]; rfl) HS5.out (by have := HLA4.out; have := HEL.out; have := HQ4.out; have := HQ5.out; omega) hw5 ?_; intro g6 c6 w6 ho6 chg6 hg6; rw [← HEE.out] at ho6 ⊢)
  have HF : Hid (RetO w (encR r) (.returned (.slice (some ⟨g6, 0, none⟩) (encR r).length c6)) w6) := ⟨g6, c6, rfl, ho6.base (by omega), chg6.below HB5.out HB5.out.size (by simp; omega)⟩
  clear ho6 chg6 hg6
  go_ret
  exact HF.out



set_option maxRecDepth 100000 in
set_option maxHeartbeats 1000000 in
theorem sameRec_any (ma ea : Option Addr) (mc ec lm le : Nat) (r : Pr) (ma' ea' : Option Addr) (mc' ec' lm' le' : Nat) (r' : Pr) (w : World) (h : RecAt w ma mc ea ec r) (hlm : r.mem.length = lm) (hle : r.ents.length = le) (hs : Small r)
    (h' : RecAt w ma' mc' ea' ec' r') (hlm' : r'.mem.length = lm') (hle' : r'.ents.length = le') (hs' : Small r') :
    Calls Tryz.prog 31 #[.agg #[.int .i64 r.kind, .int .i64 r.epoch, .slice ma lm mc, .int .i64 r.pos, .int .i64 r.last, .slice ea le ec], .agg #[.int .i64 r'.kind, .int .i64 r'.epoch, .slice ma' lm' mc', .int .i64 r'.pos, .int .i64 r'.last, .slice ea' le' ec']] w
      fun e w' => e = .returned (.bool (decide (encR r = encR r'))) ∧ Below w.heap.size w w' := by
  have E0 : Hid (Ext w ((w.alloc (.cells #[.int .i64 r.kind, .int .i64 r.epoch, .slice ma lm mc, .int .i64 r.pos, .int .i64 r.last, .slice ea le ec] 35)).alloc (.cells #[.int .i64 r'.kind, .int .i64 r'.epoch, .slice ma' lm' mc', .int .i64 r'.pos, .int .i64 r'.last, .slice ea' le' ec'] 35)).drew) :=
    ((below_one w _).alloc (by simp) _).drew
  have HA : Hid (Box ((w.alloc (.cells #[.int .i64 r.kind, .int .i64 r.epoch, .slice ma lm mc, .int .i64 r.pos, .int .i64 r.last, .slice ea le ec] 35)).alloc (.cells #[.int .i64 r'.kind, .int .i64 r'.epoch, .slice ma' lm' mc', .int .i64 r'.pos, .int .i64 r'.last, .slice ea' le' ec'] 35)).drew w.heap.size #[.int .i64 r.kind, .int .i64 r.epoch, .slice ma lm mc, .int .i64 r.pos, .int .i64 r.last, .slice ea le ec]) :=
    (box_new w _ _ _ rfl).below ((below_one _ _).drew)
  have HA' : Hid (Box ((w.alloc (.cells #[.int .i64 r.kind, .int .i64 r.epoch, .slice ma lm mc, .int .i64 r.pos, .int .i64 r.last, .slice ea le ec] 35)).alloc (.cells #[.int .i64 r'.kind, .int .i64 r'.epoch, .slice ma' lm' mc', .int .i64 r'.pos, .int .i64 r'.last, .slice ea' le' ec'] 35)).drew (w.heap.size + 1) #[.int .i64 r'.kind, .int .i64 r'.epoch, .slice ma' lm' mc', .int .i64 r'.pos, .int .i64 r'.last, .slice ea' le' ec']) :=
    (box_new _ _ _ _ (by simp)).below ((Below.refl _ _).drew)
  have H := Lib.hid h
  have H' := Lib.hid h'
  have HLM := Lib.hid hlm
  have HLE := Lib.hid hle
  have HLM' := Lib.hid hlm'
  have HLE' := Lib.hid hle'
  have HS := Lib.hid hs
  have HS' := Lib.hid hs'
  have HF : Hid (((strB (encR r)).toList == (strB (encR r')).toList) = decide (encR r = encR r')) := strB_beq (hs.bytes h.wf) (hs'.bytes h'.wf)
  clear h h' hlm hle hlm' hle' hs hs'
  generalize decide (encR r = encR r') = ans at *
  obtain ⟨q, hq⟩ : ∃ q, (encR r).length = q := ⟨_, rfl⟩
  obtain ⟨q', hq'⟩ : ∃ q, (encR r').length = q := ⟨_, rfl⟩
  have Q := Lib.hid hq
  have Q' := Lib.hid hq'
  clear hq hq'
  have ST := Lib.hid (fun (w' : World) x c (h : SeenAt w' x c (encR r)) => str_at h Q.out)
  have ST' := Lib.hid (fun (w' : World) x c (h : SeenAt w' x c (encR r')) => str_at h Q'.out)
  generalize strB (encR r) = sr at *
  generalize strB (encR r') = sr' at *
  go_enter Tryz.func31, Tryz.ntmps31
  go_wp2_with fail
  refine wp_region_ext (by kernel_rfl) ?_
  generalize ((w.alloc (.cells #[.int .i64 r.kind, .int .i64 r.epoch, .slice ma lm mc, .int .i64 r.pos, .int .i64 r.last, .slice ea le ec] 35)).alloc (.cells #[.int .i64 r'.kind, .int .i64 r'.epoch, .slice ma' lm' mc', .int .i64 r'.pos, .int .i64 r'.last, .slice ea' le' ec'] 35)).drew = w0 at *
  refine wpAnyH_tk (i := 0) 5 (v := ?_) rfl rfl (by kernel_rfl) (by kernel_rfl) (by kernel_rfl) (by rfl) (fun wq hwq => ?_) ?_
  rotate_left
  · (obtain ⟨x0, x1, x2, x3, x4, x5⟩ := box6 ((HA.out).below hwq); go_simp <;> with_reducible rfl)
  simp only [List.setIfInBounds_toArray, List.set_cons_zero, List.set_cons_succ]
  refine wpAnyH_tk (i := 3) 8 (v := ?_) rfl rfl (by kernel_rfl) (by kernel_rfl) (by kernel_rfl) (by rfl) (fun wq hwq => ?_) ?_
  rotate_left
  · (obtain ⟨x0, x1, x2, x3, x4, x5⟩ := box6 ((HA'.out).below hwq); go_simp <;> with_reducible rfl)
  simp only [List.setIfInBounds_toArray, List.set_cons_zero, List.set_cons_succ]
  refine wpAnyH_one (i := 1) rfl (by kernel_rfl) (by rfl) (fun K hK => ?_)
  go_simp
  refine (record_own _ _ _ _ _ _ r _ (H.out.below E0.out) HLM.out HLE.out HS.out).mono ?_
  rintro e w1 ⟨g1, c1, rfl, ho1, hb1⟩
  have E1 := Lib.hid (E0.out.trans hb1)
  have X1 := Lib.hid ho1.seenAt
  rw [Q.out]
  refine hK.out _ _ hb1 ?_
  clear hK K
  refine wpAnyH_tk (i := 2) 7 (v := ?_) rfl rfl (by kernel_rfl) (by kernel_rfl) (by kernel_rfl) (by rfl) (fun wq hwq => ?_) ?_
  rotate_left
  · (have hx := ST.out wq _ _ (X1.out.below hwq); go_simp <;> with_reducible rfl)
  simp only [List.setIfInBounds_toArray, List.set_cons_zero, List.set_cons_succ]
  refine wpAnyH_one (i := 4) rfl (by kernel_rfl) (by rfl) (fun K hK => ?_)
  go_simp
  refine (record_own _ _ _ _ _ _ r' _ (H'.out.below E1.out) HLM'.out HLE'.out HS'.out).mono ?_
  rintro e w2 ⟨g2, c2, rfl, ho2, hb2⟩
  have E2 := Lib.hid (E1.out.trans hb2)
  have X2 := Lib.hid ho2.seenAt
  rw [Q'.out]
  refine hK.out _ _ hb2 ?_
  clear hK K
  refine wpAnyH_tk (i := 5) 10 (v := ?_) rfl rfl (by kernel_rfl) (by kernel_rfl) (by kernel_rfl) (by rfl) (fun wq hwq => ?_) ?_
  rotate_left
  · (have hx := ST'.out wq _ _ (X2.out.below hwq); go_simp <;> with_reducible rfl)
  simp only [List.setIfInBounds_toArray, List.set_cons_zero, List.set_cons_succ]
  refine wpAnyH_tk (i := 6) 11 (v := ?_) rfl rfl (by kernel_rfl) (by kernel_rfl) (by kernel_rfl) (by rfl) (fun wq hwq => ?_) ?_
  rotate_left
  · (have hx := HF.out; go_simp <;> with_reducible rfl)
  simp only [List.setIfInBounds_toArray, List.set_cons_zero, List.set_cons_succ]
  refine wpAnyH_tk (i := 7) 4 (v := ?_) rfl rfl (by kernel_rfl) (by kernel_rfl) (by kernel_rfl) (by rfl) (fun wq hwq => ?_) ?_
  rotate_left
  · (go_simp <;> with_reducible rfl)
  simp only [List.setIfInBounds_toArray, List.set_cons_zero, List.set_cons_succ]
  refine wpAnyH_done (by kernel_rfl) ?_ _
  refine NoPanic.normal ?_
  go_wp2
  go_ret
  exact ⟨rfl, E2.out⟩

end Go.Proofs.YtdgpbdedaafdiaaGreat
