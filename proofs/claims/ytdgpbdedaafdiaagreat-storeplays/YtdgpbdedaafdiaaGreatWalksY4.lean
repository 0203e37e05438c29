/-
  The bytes of entries and records, by the program: packedEntry, Encode.
-/
import Derived.Test.YtdgpbdedaafdiaaGreatWalksY1
import Derived.Test.YtdgpbdedaafdiaaGreatExt
namespace Go.Proofs.YtdgpbdedaafdiaaGreat
open Go.RowKit


set_option maxRecDepth 100000 in
set_option maxHeartbeats 1000000 in
theorem packedEntry_own (e : Pe) (loc : Option Addr) (c : Nat) (w : World) (hw : e.Wf) (hk : e.key.length ≤ 10000000) (hf : e.frag.length ≤ 10000000) (hs : SeenAt w loc c e.frag) :
    Calls Tryz.prog 98 #[.agg #[.int .i64 e.seq, .int .i64 e.client, .int .i64 e.num, .int .i64 e.op, .string (strB e.key), .int .i64 e.size, .int .u32 (e.sum : Int), .slice loc e.frag.length c]] w (RetO w (encE e)) := by
  have hsum := hw.sum
  obtain ⟨lf, hlf⟩ : ∃ q, e.frag.length = q := ⟨_, rfl⟩
  rw [hlf] at hf ⊢
  have HLF := Lib.hid hlf
  have HB0 : Hid (Below w.heap.size w (w.alloc (.cells #[.int .i64 e.seq, .int .i64 e.client, .int .i64 e.num, .int .i64 e.op, .string (strB e.key), .int .i64 e.size, .int .u32 (e.sum : Int), .slice loc lf c] 41))) := below_one w _
  have HI := Lib.hid (ints_lit (w.alloc (.cells #[.int .i64 e.seq, .int .i64 e.client, .int .i64 e.num, .int .i64 e.op, .string (strB e.key), .int .i64 e.size, .int .u32 (e.sum : Int), .slice loc lf c] 41)) [e.seq, e.client, e.num, e.op, e.size, (e.sum : Int)] #[.int .i64 e.seq, .int .i64 e.client, .int .i64 e.num, .int .i64 e.op, .int .i64 e.size, .int .i64 (e.sum : Int)] 6 (w.heap.size + 1) (by simp) rfl rfl hw.six (by unfold maxLen; omega))
  have HK := Lib.hid hw.key
  have HS := Lib.hid hs
  have HLK := Lib.hid hk
  have HEE : Hid (encE e = encs [e.seq, e.client, e.num, e.op, e.size, (e.sum : Int)] ++ Pk.txt e.key ++ Pk.txt e.frag) := rfl
  have HL6 : Hid ((encs [e.seq, e.client, e.num, e.op, e.size, (e.sum : Int)]).length ≤ 60) := Nat.le_trans (encs_len _) (by simp)
  clear hw hs hlf
  go_enter Tryz.func98, Tryz.ntmps98
  go_wp2_with fail
  refine (packedNumbers_own _ _ 6 _ _ rfl HI.out (by omega) (by omega)).mono ?_
  rintro x w1 ⟨g1, c1, rfl, ho1, hb1⟩
  have hb01 := (below_one _ _).trans (hb1.mono (by simp))
  have b4 := box_later hb01 4 (.string (strB e.key)) rfl
  have b7 := box_later hb01 7 (.slice loc lf c) rfl
  have HB1 := Lib.hid (HB0.out.trans (hb01.mono (by simp)))
  have HS1 := Lib.hid ho1.seenAt
  have HL7 : Hid ((encs [e.seq, e.client, e.num, e.op, e.size, (e.sum : Int)] ++ Pk.txt e.key).length ≤ 20000000) := by
    have := (Pk.txt_len e.key).2
    have := HL6.out
    have := HLK.out
    show _ ≤ _
    rw [List.length_append]
    omega
  clear ho1 hb1 hb01 HI
  generalize encs [e.seq, e.client, e.num, e.op, e.size, (e.sum : Int)] = A at *
  generalize hq : A.length = q at *
  have HQ := Lib.hid hq
  clear hq
  obtain ⟨c2, w2, hcv, hs2, hb2⟩ := conv_str w1 e.key HK.out (by have := HLK.out; omega)
  have HS2 := Lib.hid hs2
  have HB2 := Lib.hid (HB1.out.trans (hb2.mono HB1.out.size))
  have b72 := cell_later hb2 b7
  have HS12 := Lib.hid (HS1.out.below hb2)
  clear hs2 hb2
  generalize hq2 : e.key.length = lk at *
  have HQ2 := Lib.hid hq2
  clear hq2
  go_wp2_with fail
  refine (packText_any _ _ _ _ _ _ A e.key _ HQ.out HQ2.out (by have := HL6.out; omega) (by have := HLK.out; omega) HS12.out HS2.out).mono ?_
  rintro x w3 ⟨a3, c3, rfl, hs3, _, hb3⟩
  have HS3 := Lib.hid hs3
  have HB3 := Lib.hid (HB2.out.trans (hb3.mono HB2.out.size))
  have b73 := cell_later hb3 b72
  have HS4 := Lib.hid (HS.out.below HB3.out)
  clear hs3 hb3
  generalize A ++ Pk.txt e.key = A2 at *
  generalize hq3 : A2.length = q3 at *
  have HQ3 := Lib.hid hq3
  clear hq3
  go_wp2_with fail
  refine (packText_own _ _ _ _ _ _ A2 e.frag _ HQ3.out HLF.out (by have := HL7.out; omega) (by omega) HS3.out HS4.out).mono ?_
  intro x w4 h4
  have HR := Lib.hid (h4.later HB3.out HEE.out.symm)
  obtain ⟨g4, c4, rfl, _⟩ := h4
  generalize (A2 ++ Pk.txt e.frag).length = q4 at *
  go_wp2
  go_ret
  exact HR.out

set_option maxRecDepth 100000 in
set_option maxHeartbeats 1000000 in
theorem list_ent (a : Option Addr) (cap l : Nat) (xs : List Pe) (w : World) (hl : xs.length = l) (h : EnsAt w a cap xs) (hm : l ≤ 4096) (hs : ∀ x ∈ xs, sndE x = true) :
    Calls Tryz.prog 97 #[.slice a l cap, .func (.func 98) #[] #[]] w (RetO w (encs [(l : Int)] ++ encL encE xs)) := by
  have HE := Lib.hid h
  have HL := Lib.hid hl
  have HS := Lib.hid hs
  have HEL : Hid ((encL encE xs).length ≤ 1441792) := by
    have := encL_len encE 352 xs fun x hx => encE_small x (hs x hx)
    show _ ≤ _
    omega
  have HI := Lib.hid (ints_lit w [(l : Int)] #[.int .i64 (l : Int)] 1 w.heap.size rfl rfl rfl (by intro z hz; simp at hz; subst hz; exact ⟨by omega, by omega⟩) (by unfold maxLen; omega))
  clear h hl hs
  go_enter Tryz.func97, Tryz.ntmps97
  go_wp2_with fail
  refine (packedNumbers_own _ _ 1 _ _ rfl HI.out (by omega) (by omega)).mono ?_
  rintro e w1 ⟨g1, c1, rfl, ho1, hb1⟩
  have HO1 : Hid (OwnB w1 w.heap.size g1 c1 (encs [(l : Int)] ++ encL encE (xs.take 0))) := by
    show OwnB _ _ _ _ _
    rw [List.take_zero, encL_nil, List.append_nil]
    exact ho1.base (by simp)
  have HB1 := Lib.hid ((below_one w _).trans (hb1.mono (by simp)))
  have HL1 : Hid ((encs [(l : Int)]).length ≤ 10) := Nat.le_trans (encs_len _) (by simp)
  clear ho1 hb1 HI
  generalize encs [(l : Int)] = A at *
  generalize hq : A.length = q at *
  have HQ := Lib.hid hq
  clear hq
  go_wp2
  go_loopw [5, 7, 14] (fun v _ i ws => ∃ (k g c : Nat), k ≤ l ∧ i = .int .i64 k ∧ v = .slice (some ⟨g, 0, none⟩) (A ++ encL encE (xs.take k)).length c ∧ Hid (OwnB ws w.heap.size g c (A ++ encL encE (xs.take k))) ∧ Hid (Below w.heap.size w ws)) (fun _ _ i _ => l - (intOf i).toNat)
  case atStart => exact ⟨0, g1, c1, Nat.zero_le _, rfl, by rw [List.take_zero, encL_nil, List.append_nil, HQ.out], HO1, HB1⟩
  case round =>
    obtain ⟨k, g, c, hk, rfl, rfl, HO, HB⟩ := hrel
    by_cases hlt : k < l
    · obtain ⟨b, off, loc, cc, rfl, hc⟩ := (HE.out.below HB.out).el k (by rw [HL.out]; exact hlt)
      have HWF := Lib.hid (HE.out.wf _ (getD_mem xs k pe0 (by rw [HL.out]; exact hlt)))
      have c0 := hc.c0
      have c1 := hc.c1
      have c2 := hc.c2
      have c3 := hc.c3
      have c4 := hc.c4
      have c5 := hc.c5
      have c6 := hc.c6
      have c7 := hc.c7
      have HSF := Lib.hid (hc.seen.below (below_one wr (.cells #[.int .i64 (xs.getD k pe0).seq, .int .i64 (xs.getD k pe0).client, .int .i64 (xs.getD k pe0).num, .int .i64 (xs.getD k pe0).op, .string (strB (xs.getD k pe0).key), .int .i64 (xs.getD k pe0).size, .int .u32 ((xs.getD k pe0).sum : Int), .slice loc (xs.getD k pe0).frag.length cc] 41)))
      clear hc
      have HSL := Lib.hid (HS.out _ (getD_mem xs k pe0 (by rw [HL.out]; exact hlt)))
      have HN : Hid (A ++ encL encE (xs.take (k + 1)) = (A ++ encL encE (xs.take k)) ++ encE (xs.getD k pe0)) := by
        show _ = _
        rw [encL_snoc encE xs pe0 k (by rw [HL.out]; exact hlt), List.append_assoc]
      have HLT : Hid ((A ++ encL encE (xs.take k)).length ≤ 2000000) := by
        have h1 := encL_take encE xs k
        have h2 := HEL.out
        have h3 := HQ.out
        have h4 := HL1.out
        show _ ≤ _
        rw [List.length_append]
        omega
      generalize xs.getD k pe0 = p at *
      generalize hqa : (A ++ encL encE (xs.take k)).length = qa at *
      have HQA := Lib.hid hqa
      clear hqa
      go_wp2_with fail
      refine (packedEntry_own p loc cc _ HWF.out (by have := sndE_lens p HSL.out; omega) (by have := sndE_lens p HSL.out; omega) HSF.out).mono ?_
      rintro e w7 ⟨g7, c7', rfl, ho7, hb7⟩
      have hb07 : Below wr.heap.size wr w7 := (below_one wr _).trans (hb7.mono (by simp))
      have HB7 := Lib.hid (HB.out.trans (hb07.mono HB.out.size))
      have HO7 := Lib.hid (HO.out.chg (gs := []) (Chg.of_below hb07) (by simp))
      have HS7 := Lib.hid ho7.seenAt
      have hgl := HO.out.lt.1
      have HL7 : Hid ((encE p).length ≤ 352) := by have hx := HSL.out; show _ ≤ _; exact encE_small p hx
      clear ho7 hb7 hb07
      generalize hq7 : (encE p).length = q7 at *
      have HQ7 := Lib.hid hq7
      clear hq7
      go_wp2_with (at_builtin; refine wpList_appB rfl (.tmp 18) (.tmp 21) rfl w.heap.size g c (A ++ encL encE (xs.take k)) (encE p) (by rw [HQA.out]; rfl) HO7.out _ _ (by rw [HQ7.out]; rfl) HS7.out (by have := HLT.out; have := HL7.out; have := HQ7.out; have := HQA.out; omega) HB7.out.size ?_; intro g8 c8 w8 ho8 chg8 hg8; rw [← HN.out] at ho8 ⊢)
      have HB8 := Lib.hid (chg8.below HB7.out HB7.out.size (by simp; omega))
      have HO8 := Lib.hid ho8
      clear ho8 chg8 hg8
      go_roundw
      case rel => exact ⟨k + 1, g8, c8, by omega, by go_num, by rw [List.length_append], HO8, HB8⟩
      case measure => simp [intOf]; omega
    · obtain rfl : k = l := by omega
      have HT : Hid (xs.take k = xs) := List.take_of_length_le (by rw [HL.out]; omega)
      rw [HT.out] at HO ⊢
      have HF : Hid (RetO w (A ++ encL encE xs) (.returned (.slice (some ⟨g, 0, none⟩) (A ++ encL encE xs).length c)) wr) := ⟨g, c, rfl, HO.out, HB.out⟩
      generalize (A ++ encL encE xs).length = q at *
      go_wp2
      go_ret
      exact HF.out

theorem ret_nil2 {a b : Int} (h : a = b) : Ending.returned (.tuple #[.slice none 0 0, .int .i64 a]) = .returned (.tuple #[.slice none 0 0, .int .i64 b]) := by rw [h]

set_option maxRecDepth 100000 in
set_option maxHeartbeats 1000000 in
theorem encode_no (ma ea : Option Addr) (mc ec lm le : Nat) (r : Pr) (w : World) (h : RecAt w ma mc ea ec r) (hlm : r.mem.length = lm) (hle : r.ents.length = le) (hno : sndR r = false) :
    Calls Tryz.prog 81 #[.agg #[.int .i64 r.kind, .int .i64 r.epoch, .slice ma lm mc, .int .i64 r.pos, .int .i64 r.last, .slice ea le ec]] w fun e w' => e = .returned (.tuple #[.slice none 0 0, .int .i64 2]) ∧ Below w.heap.size w w' := by
  have HB0 : Hid (Below w.heap.size w (w.alloc (.cells #[.int .i64 r.kind, .int .i64 r.epoch, .slice ma lm mc, .int .i64 r.pos, .int .i64 r.last, .slice ea le ec] 35))) := below_one w _
  have HR := Lib.hid (h.below HB0.out)
  have HLM := Lib.hid hlm
  have HLE := Lib.hid hle
  have HN := Lib.hid hno
  clear h hlm hle hno
  go_enter Tryz.func81, Tryz.ntmps81
  go_wp2_with fail
  refine (soundRecord_any _ _ _ _ _ _ r _ HR.out HLM.out HLE.out).mono ?_
  rintro e w1 ⟨rfl, hb1⟩
  have HB1 := Lib.hid (HB0.out.trans (hb1.mono (by simp)))
  clear hb1
  rw [HN.out]
  go_wp2
  go_ret2
  exact ⟨rfl, HB1.out⟩

/-- Encode's answer: the bytes in memory of the call's own. -/
def RetE (w : World) (ps : List Nat) (e : Ending) (w' : World) : Prop :=
  ∃ g cap, e = .returned (.tuple #[.slice (some ⟨g, 0, none⟩) ps.length cap, .int .i64 0]) ∧ OwnB w' w.heap.size g cap ps ∧ Below w.heap.size w w'


set_option maxRecDepth 100000 in
set_option maxHeartbeats 2000000 in
theorem encode_yes (ma ea : Option Addr) (mc ec lm le : Nat) (r : Pr) (w : World) (h : RecAt w ma mc ea ec r) (hlm : r.mem.length = lm) (hle : r.ents.length = le) (hyes : sndR r = true) :
    Calls Tryz.prog 81 #[.agg #[.int .i64 r.kind, .int .i64 r.epoch, .slice ma lm mc, .int .i64 r.pos, .int .i64 r.last, .slice ea le ec]] w (RetE w (encR r)) := by
  obtain ⟨s1, s2, s3⟩ := sndR_lens r hyes
  rw [hlm] at s1
  rw [hle] at s2
  have HB0 : Hid (Below w.heap.size w (w.alloc (.cells #[.int .i64 r.kind, .int .i64 r.epoch, .slice ma lm mc, .int .i64 r.pos, .int .i64 r.last, .slice ea le ec] 35))) := below_one w _
  have HX0 : Hid (Box (w.alloc (.cells #[.int .i64 r.kind, .int .i64 r.epoch, .slice ma lm mc, .int .i64 r.pos, .int .i64 r.last, .slice ea le ec] 35)) w.heap.size #[.int .i64 r.kind, .int .i64 r.epoch, .slice ma lm mc, .int .i64 r.pos, .int .i64 r.last, .slice ea le ec]) := box_new w _ _ _ rfl
  have HR := Lib.hid (h.below HB0.out)
  have HLM := Lib.hid hlm
  have HLE := Lib.hid hle
  have HY := Lib.hid hyes
  have HSE := Lib.hid s3
  have HEE : Hid (encR r = [encs [r.kind, r.epoch, r.pos, r.last, (lm : Int)], encs r.mem, encs [(le : Int)] ++ encL encE r.ents].flatten) := by show _ = _; unfold encR; rw [hlm, hle]; simp
  have HEL : Hid ((encR r).length ≤ 2000000) := encR_len r hyes
  have HI5 : Hid (∀ z ∈ [r.kind, r.epoch, r.pos, r.last, (lm : Int)], I64 z) := by have := h.wf.five (by omega); rw [hlm] at this; exact this
  have HPOS : Hid (0 < (encs [r.kind, r.epoch, r.pos, r.last, (lm : Int)]).length) := by
    have := (Pk.num_len r.kind).1
    show 0 < (Pk.num r.kind ++ _).length
    rw [List.length_append]
    omega
  clear h hlm hle hyes s3
  go_enter Tryz.func81, Tryz.ntmps81
  go_wp2_with fail
  refine (soundRecord_any _ _ _ _ _ _ r _ HR.out HLM.out HLE.out).mono ?_
  rintro e w1 ⟨rfl, hb1⟩
  have HB1 := Lib.hid (HB0.out.trans (hb1.mono (by simp))).drew
  have HX1 : Hid (Box w1.drew w.heap.size #[.int .i64 r.kind, .int .i64 r.epoch, .slice ma lm mc, .int .i64 r.pos, .int .i64 r.last, .slice ea le ec]) := HX0.out.below hb1.drew
  have HR1 := Lib.hid (HR.out.below hb1.drew)
  clear hb1 HX0 HR
  rw [HY.out]
  go_wp2_with fail
  refine wp_region_ext (by kernel_rfl) ?_
  generalize w1.drew = w2 at *
  have HI := Lib.hid (ints_lit w2 [r.kind, r.epoch, r.pos, r.last, (lm : Int)] #[.int .i64 r.kind, .int .i64 r.epoch, .int .i64 r.pos, .int .i64 r.last, .int .i64 (lm : Int)] 5 w2.heap.size rfl rfl rfl HI5.out (by unfold maxLen; omega))
  refine wpAnyH_tk (i := 0) 7 (v := ?_) rfl rfl (by kernel_rfl) (by kernel_rfl) (by kernel_rfl) (by rfl) (fun wq hwq => ?_) ?_
  rotate_left
  · (go_simp <;> with_reducible rfl)
  simp only [List.setIfInBounds_toArray, List.set_cons_zero, List.set_cons_succ]
  refine wpAnyH_tk (i := 1) 8 (v := ?_) rfl rfl (by kernel_rfl) (by kernel_rfl) (by kernel_rfl) (by rfl) (fun wq hwq => ?_) ?_
  rotate_left
  · (obtain ⟨x0, x1, x2, x3, x4, x5⟩ := box6 ((HX1.out).below hwq); go_simp <;> with_reducible rfl)
  simp only [List.setIfInBounds_toArray, List.set_cons_zero, List.set_cons_succ]
  refine wpAnyH_tk (i := 2) 9 (v := ?_) rfl rfl (by kernel_rfl) (by kernel_rfl) (by kernel_rfl) (by rfl) (fun wq hwq => ?_) ?_
  rotate_left
  · (go_simp <;> with_reducible rfl)
  simp only [List.setIfInBounds_toArray, List.set_cons_zero, List.set_cons_succ]
  refine wpAnyH_tk (i := 3) 10 (v := ?_) rfl rfl (by kernel_rfl) (by kernel_rfl) (by kernel_rfl) (by rfl) (fun wq hwq => ?_) ?_
  rotate_left
  · (go_simp <;> with_reducible rfl)
  simp only [List.setIfInBounds_toArray, List.set_cons_zero, List.set_cons_succ]
  refine wpAnyH_tk (i := 4) 11 (v := ?_) rfl rfl (by kernel_rfl) (by kernel_rfl) (by kernel_rfl) (by rfl) (fun wq hwq => ?_) ?_
  rotate_left
  · (obtain ⟨x0, x1, x2, x3, x4, x5⟩ := box6 ((HX1.out).below hwq); go_simp <;> with_reducible rfl)
  simp only [List.setIfInBounds_toArray, List.set_cons_zero, List.set_cons_succ]
  refine wpAnyH_tk (i := 5) 12 (v := ?_) rfl rfl (by kernel_rfl) (by kernel_rfl) (by kernel_rfl) (by rfl) (fun wq hwq => ?_) ?_
  rotate_left
  · (go_simp <;> with_reducible rfl)
  simp only [List.setIfInBounds_toArray, List.set_cons_zero, List.set_cons_succ]
  refine wpAnyH_tk (i := 6) 13 (v := ?_) rfl rfl (by kernel_rfl) (by kernel_rfl) (by kernel_rfl) (by rfl) (fun wq hwq => ?_) ?_
  rotate_left
  · (obtain ⟨x0, x1, x2, x3, x4, x5⟩ := box6 ((HX1.out).below hwq); go_simp <;> with_reducible rfl)
  simp only [List.setIfInBounds_toArray, List.set_cons_zero, List.set_cons_succ]
  refine wpAnyH_tk (i := 7) 14 (v := ?_) rfl rfl (by kernel_rfl) (by kernel_rfl) (by kernel_rfl) (by rfl) (fun wq hwq => ?_) ?_
  rotate_left
  · (go_simp <;> with_reducible rfl)
  simp only [List.setIfInBounds_toArray, List.set_cons_zero, List.set_cons_succ]
  refine wpAnyH_tk (i := 8) 15 (v := ?_) rfl rfl (by kernel_rfl) (by kernel_rfl) (by kernel_rfl) (by rfl) (fun wq hwq => ?_) ?_
  rotate_left
  · (obtain ⟨x0, x1, x2, x3, x4, x5⟩ := box6 ((HX1.out).below hwq); go_simp <;> with_reducible rfl)
  simp only [List.setIfInBounds_toArray, List.set_cons_zero, List.set_cons_succ]
  refine wpAnyH_tk (i := 9) 16 (v := ?_) rfl rfl (by kernel_rfl) (by kernel_rfl) (by kernel_rfl) (by rfl) (fun wq hwq => ?_) ?_
  rotate_left
  · (go_simp <;> with_reducible rfl)
  simp only [List.setIfInBounds_toArray, List.set_cons_zero, List.set_cons_succ]
  refine wpAnyH_tk (i := 10) 17 (v := ?_) rfl rfl (by kernel_rfl) (by kernel_rfl) (by kernel_rfl) (by rfl) (fun wq hwq => ?_) ?_
  rotate_left
  · (go_simp <;> with_reducible rfl)
  simp only [List.setIfInBounds_toArray, List.set_cons_zero, List.set_cons_succ]
  refine wpAnyH_tk (i := 11) 18 (v := ?_) rfl rfl (by kernel_rfl) (by kernel_rfl) (by kernel_rfl) (by rfl) (fun wq hwq => ?_) ?_
  rotate_left
  · (obtain ⟨x0, x1, x2, x3, x4, x5⟩ := box6 ((HX1.out).below hwq); go_simp <;> with_reducible rfl)
  simp only [List.setIfInBounds_toArray, List.set_cons_zero, List.set_cons_succ]
  refine wpAnyH_tk (i := 12) 19 (v := ?_) rfl rfl (by kernel_rfl) (by kernel_rfl) (by kernel_rfl) (by rfl) (fun wq hwq => ?_) ?_
  rotate_left
  · (go_simp <;> with_reducible rfl)
  simp only [List.setIfInBounds_toArray, List.set_cons_zero, List.set_cons_succ]
  refine wpAnyH_tk (i := 15) 22 (v := ?_) rfl rfl (by kernel_rfl) (by kernel_rfl) (by kernel_rfl) (by rfl) (fun wq hwq => ?_) ?_
  rotate_left
  · (go_simp <;> with_reducible rfl)
  simp only [List.setIfInBounds_toArray, List.set_cons_zero, List.set_cons_succ]
  refine wpAnyH_tk (i := 16) 23 (v := ?_) rfl rfl (by kernel_rfl) (by kernel_rfl) (by kernel_rfl) (by rfl) (fun wq hwq => ?_) ?_
  rotate_left
  · (go_simp <;> with_reducible rfl)
  simp only [List.setIfInBounds_toArray, List.set_cons_zero, List.set_cons_succ]
  refine wpAnyH_tk (i := 17) 24 (v := ?_) rfl rfl (by kernel_rfl) (by kernel_rfl) (by kernel_rfl) (by rfl) (fun wq hwq => ?_) ?_
  rotate_left
  · (obtain ⟨x0, x1, x2, x3, x4, x5⟩ := box6 ((HX1.out).below hwq); go_simp <;> with_reducible rfl)
  simp only [List.setIfInBounds_toArray, List.set_cons_zero, List.set_cons_succ]
  refine wpAnyH_tk (i := 19) 26 (v := ?_) rfl rfl (by kernel_rfl) (by kernel_rfl) (by kernel_rfl) (by rfl) (fun wq hwq => ?_) ?_
  rotate_left
  · (go_simp <;> with_reducible rfl)
  simp only [List.setIfInBounds_toArray, List.set_cons_zero, List.set_cons_succ]
  refine wpAnyH_tk (i := 20) 27 (v := ?_) rfl rfl (by kernel_rfl) (by kernel_rfl) (by kernel_rfl) (by rfl) (fun wq hwq => ?_) ?_
  rotate_left
  · (obtain ⟨x0, x1, x2, x3, x4, x5⟩ := box6 ((HX1.out).below hwq); go_simp <;> with_reducible rfl)
  simp only [List.setIfInBounds_toArray, List.set_cons_zero, List.set_cons_succ]
  refine wpAnyH_one (i := 13) rfl (by kernel_rfl) (by rfl) (fun K hK => ?_)
  go_simp
  refine hK.out _ _ (below_one w2 _) ?_
  clear hK K
  refine wpAnyH_one (i := 14) rfl (by kernel_rfl) (by rfl) (fun K hK => ?_)
  go_simp
  refine (packedNumbers_own _ _ 5 _ _ rfl HI.out (by omega) (by omega)).mono ?_
  rintro e w3 ⟨g3, c3, rfl, ho3, hb3⟩
  have hb23 := (below_one w2 _).trans (hb3.mono (by simp))
  have HB3 := Lib.hid (HB1.out.trans (hb23.mono HB1.out.size))
  have HS3 := Lib.hid ho3.seenAt
  have HR3 := Lib.hid (HR1.out.below hb23)
  clear HI ho3 hb23
  generalize encs [r.kind, r.epoch, r.pos, r.last, (lm : Int)] = A3 at *
  generalize hq3 : A3.length = q3 at *
  have HQ3 := Lib.hid hq3
  clear hq3
  refine hK.out _ _ hb3 ?_
  clear hK K
  clear hb3
  refine wpAnyH_one (i := 18) rfl (by kernel_rfl) (by rfl) (fun K hK => ?_)
  go_simp
  refine (packedNumbers_any _ _ _ r.mem _ HLM.out HR3.out.mem (by omega)).mono ?_
  rintro e w4 ⟨x4, c4, rfl, hs4, hb4⟩
  have HB4 := Lib.hid (HB3.out.trans (hb4.mono HB3.out.size))
  have HS34 := Lib.hid (HS3.out.below hb4)
  have HS4 := Lib.hid hs4
  have HR4 := Lib.hid (HR3.out.below hb4)
  clear hs4 HS3
  generalize encs r.mem = A4 at *
  generalize hq4 : A4.length = q4 at *
  have HQ4 := Lib.hid hq4
  clear hq4
  refine hK.out _ _ hb4 ?_
  clear hK K
  clear hb4
  refine wpAnyH_one (i := 21) rfl (by kernel_rfl) (by rfl) (fun K hK => ?_)
  go_simp
  refine (list_ent _ _ _ r.ents _ HLE.out HR4.out.ents s2 HSE.out).mono ?_
  rintro e w5 ⟨g5, c5, rfl, ho5, hb5⟩
  have HB5 := Lib.hid (HB4.out.trans (hb5.mono HB4.out.size))
  have HG := Lib.hid (rows_three (HS34.out.below hb5) (HS4.out.below hb5) ho5.seenAt)
  clear ho5 HS34 HS4
  generalize encs [(le : Int)] ++ encL encE r.ents = A5 at *
  generalize hq5 : A5.length = q5 at *
  rw [HQ3.out, HQ4.out] at HG
  clear hq5
  refine hK.out _ _ hb5 ?_
  clear hK K
  clear hb5
  refine wpAnyH_one (i := 22) rfl (by kernel_rfl) (by rfl) (fun K hK => ?_)
  go_simp
  refine hK.out _ _ (below_one w5 _) ?_
  clear hK K
  refine wpAnyH_one (i := 23) rfl (by kernel_rfl) (by rfl) (fun K hK => ?_)
  go_simp
  refine (concat_own _ 3 3 _ _ rfl HG.out (by rw [List.flatten_cons, List.length_append]; have := HPOS.out; have := HQ3.out; omega) (by have := HEL.out; rw [← HEE.out]; omega)).mono ?_
  rintro e w6 ⟨g6, c6, rfl, ho6, hb6⟩
  rw [← HEE.out] at ho6 ⊢
  have HF : Hid (RetE w (encR r) (.returned (.tuple #[.slice (some ⟨g6, 0, none⟩) (encR r).length c6, .int .i64 0])) w6) := ⟨g6, c6, rfl, ho6.base (by have := HB5.out.size; simp; omega), HB5.out.trans (((below_one w5 _).trans (hb6.mono (by simp))).mono HB5.out.size)⟩
  clear ho6
  generalize (encR r).length = q6 at *
  refine hK.out _ _ hb6 ?_
  clear hK K
  refine wpAnyH_tk (i := 24) 2 (v := ?_) rfl rfl (by kernel_rfl) (by kernel_rfl) (by kernel_rfl) (by rfl) (fun wq hwq => ?_) ?_
  rotate_left
  · (go_simp <;> with_reducible rfl)
  simp only [List.setIfInBounds_toArray, List.set_cons_zero, List.set_cons_succ]
  refine wpAnyH_tk (i := 25) 3 (v := ?_) rfl rfl (by kernel_rfl) (by kernel_rfl) (by kernel_rfl) (by rfl) (fun wq hwq => ?_) ?_
  rotate_left
  · (go_simp <;> with_reducible rfl)
  simp only [List.setIfInBounds_toArray, List.set_cons_zero, List.set_cons_succ]
  refine wpAnyH_done (by kernel_rfl) ?_ _
  refine NoPanic.normal ?_
  go_wp2
  go_ret2
  exact HF.out

end Go.Proofs.YtdgpbdedaafdiaaGreat
