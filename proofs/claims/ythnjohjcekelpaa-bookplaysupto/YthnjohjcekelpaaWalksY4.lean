/-
  The bytes of entries and records, by the program: packedEntry, Encode.
-/
import Derived.Test.YthnjohjcekelpaaWalksY3
namespace Go.Proofs.Ythnjohjcekelpaa
open Go.RowKit

set_option maxRecDepth 100000 in
set_option maxHeartbeats 1000000 in
theorem packedEntry_own (e : Pe) (loc : Option Addr) (c : Nat) (w : World) (hw : e.Wf) (hk : e.key.length ≤ 10000000) (hf : e.frag.length ≤ 10000000) (hs : SeenAt w loc c e.frag) :
    Calls Try.prog 68 #[.agg #[.int .i64 e.seq, .int .i64 e.client, .int .i64 e.num, .int .i64 e.op, .string (strB e.key), .int .i64 e.size, .int .u32 (e.sum : Int), .slice loc e.frag.length c]] w (RetO w (encE e)) := by
  have hsum := hw.sum
  obtain ⟨lf, hlf⟩ : ∃ q, e.frag.length = q := ⟨_, rfl⟩
  rw [hlf] at hf ⊢
  have HLF := Lib.hid hlf
  have HB0 : Hid (Below w.heap.size w (w.alloc (.cells #[.int .i64 e.seq, .int .i64 e.client, .int .i64 e.num, .int .i64 e.op, .string (strB e.key), .int .i64 e.size, .int .u32 (e.sum : Int), .slice loc lf c] 52))) := below_one w _
  have HI := Lib.hid (ints_lit (w.alloc (.cells #[.int .i64 e.seq, .int .i64 e.client, .int .i64 e.num, .int .i64 e.op, .string (strB e.key), .int .i64 e.size, .int .u32 (e.sum : Int), .slice loc lf c] 52)) [e.seq, e.client, e.num, e.op, e.size, (e.sum : Int)] #[.int .i64 e.seq, .int .i64 e.client, .int .i64 e.num, .int .i64 e.op, .int .i64 e.size, .int .i64 (e.sum : Int)] 6 (w.heap.size + 1) (by simp) rfl rfl hw.six (by unfold maxLen; omega))
  have HK := Lib.hid hw.key
  have HS := Lib.hid hs
  have HLK := Lib.hid hk
  have HEE : Hid (encE e = encs [e.seq, e.client, e.num, e.op, e.size, (e.sum : Int)] ++ Pk.txt e.key ++ Pk.txt e.frag) := rfl
  have HL6 : Hid ((encs [e.seq, e.client, e.num, e.op, e.size, (e.sum : Int)]).length ≤ 60) := Nat.le_trans (encs_len _) (by simp)
  clear hw hs hlf
  go_enter Try.func68, Try.ntmps68
  go_wp2_with fail
  refine (packedNumbers_own _ _ 6 _ _ rfl HI.out (by omega) (by omega)).mono ?_
  rintro x w1 ⟨g1, c1, rfl, ho1, hb1⟩
  have hb01 := (below_one _ _).trans (hb1.mono (by simp))
  have b4 := box_later hb01 4 (.string (strB e.key)) rfl
  have b7 := box_later hb01 7 (.slice loc lf c) rfl
  have HB1 := Lib.hid (HB0.out.trans (hb01.mono (by simp)))
  have HS1 := Lib.hid ho1.seenAt
  have HL7 : Hid ((encs [e.seq, e.client, e.num, e.op, e.size, (e.sum : Int)] ++ Pk.txt e.key).length ≤ 20000000) := by
    have := (Pk.txt_len e.key).2
    have := HL6.out
    have := HLK.out
    show _ ≤ _
    rw [List.length_append]
    omega
  clear ho1 hb1 hb01 HI
  generalize encs [e.seq, e.client, e.num, e.op, e.size, (e.sum : Int)] = A at *
  generalize hq : A.length = q at *
  have HQ := Lib.hid hq
  clear hq
  obtain ⟨c2, w2, hcv, hs2, hb2⟩ := conv_str w1 e.key HK.out (by have := HLK.out; omega)
  have HS2 := Lib.hid hs2
  have HB2 := Lib.hid (HB1.out.trans (hb2.mono HB1.out.size))
  have b72 := cell_later hb2 b7
  have HS12 := Lib.hid (HS1.out.below hb2)
  clear hs2 hb2
  generalize hq2 : e.key.length = lk at *
  have HQ2 := Lib.hid hq2
  clear hq2
  go_wp2_with fail
  refine (packText_any _ _ _ _ _ _ A e.key _ HQ.out HQ2.out (by have := HL6.out; omega) (by have := HLK.out; omega) HS12.out HS2.out).mono ?_
  rintro x w3 ⟨a3, c3, rfl, hs3, _, hb3⟩
  have HS3 := Lib.hid hs3
  have HB3 := Lib.hid (HB2.out.trans (hb3.mono HB2.out.size))
  have b73 := cell_later hb3 b72
  have HS4 := Lib.hid (HS.out.below HB3.out)
  clear hs3 hb3
  generalize A ++ Pk.txt e.key = A2 at *
  generalize hq3 : A2.length = q3 at *
  have HQ3 := Lib.hid hq3
  clear hq3
  go_wp2_with fail
  refine (packText_own _ _ _ _ _ _ A2 e.frag _ HQ3.out HLF.out (by have := HL7.out; omega) (by omega) HS3.out HS4.out).mono ?_
  intro x w4 h4
  have HR := Lib.hid (h4.later HB3.out HEE.out.symm)
  obtain ⟨g4, c4, rfl, _⟩ := h4
  generalize (A2 ++ Pk.txt e.frag).length = q4 at *
  go_wp2
  go_ret
  exact HR.out

theorem ret_nil2 {a b : Int} (h : a = b) : Ending.returned (.tuple #[.slice none 0 0, .int .i64 a]) = .returned (.tuple #[.slice none 0 0, .int .i64 b]) := by rw [h]

set_option maxRecDepth 100000 in
set_option maxHeartbeats 1000000 in
theorem encode_no (ma ea : Option Addr) (mc ec lm le : Nat) (r : Pr) (w : World) (h : RecAt w ma mc ea ec r) (hlm : r.mem.length = lm) (hle : r.ents.length = le) (hno : sndR r = false) :
    Calls Try.prog 39 #[.agg #[.int .i64 r.kind, .int .i64 r.epoch, .slice ma lm mc, .int .i64 r.pos, .int .i64 r.last, .slice ea le ec]] w fun e w' => e = .returned (.tuple #[.slice none 0 0, .int .i64 2]) ∧ Below w.heap.size w w' := by
  have HB0 : Hid (Below w.heap.size w (w.alloc (.cells #[.int .i64 r.kind, .int .i64 r.epoch, .slice ma lm mc, .int .i64 r.pos, .int .i64 r.last, .slice ea le ec] 36))) := below_one w _
  have HR := Lib.hid (h.below HB0.out)
  have HLM := Lib.hid hlm
  have HLE := Lib.hid hle
  have HN := Lib.hid hno
  clear h hlm hle hno
  go_enter Try.func39, Try.ntmps39
  go_wp2_with fail
  refine (soundRecord_any _ _ _ _ _ _ r _ HR.out HLM.out HLE.out).mono ?_
  rintro e w1 ⟨rfl, hb1⟩
  have HB1 := Lib.hid (HB0.out.trans (hb1.mono (by simp)))
  clear hb1
  rw [HN.out]
  go_wp2
  go_ret2
  exact ⟨rfl, HB1.out⟩

/-- Encode's answer: the bytes in memory of the call's own. -/
def RetE (w : World) (ps : List Nat) (e : Ending) (w' : World) : Prop :=
  ∃ g cap, e = .returned (.tuple #[.slice (some ⟨g, 0, none⟩) ps.length cap, .int .i64 0]) ∧ OwnB w' w.heap.size g cap ps ∧ Below w.heap.size w w'

set_option maxRecDepth 100000 in
set_option maxHeartbeats 2000000 in
theorem encode_yes (ma ea : Option Addr) (mc ec lm le : Nat) (r : Pr) (w : World) (h : RecAt w ma mc ea ec r) (hlm : r.mem.length = lm) (hle : r.ents.length = le) (hyes : sndR r = true) :
    Calls Try.prog 39 #[.agg #[.int .i64 r.kind, .int .i64 r.epoch, .slice ma lm mc, .int .i64 r.pos, .int .i64 r.last, .slice ea le ec]] w (RetE w (encR r)) := by
  obtain ⟨s1, s2, s3⟩ := sndR_lens r hyes
  rw [hlm] at s1
  rw [hle] at s2
  have HB0 : Hid (Below w.heap.size w (w.alloc (.cells #[.int .i64 r.kind, .int .i64 r.epoch, .slice ma lm mc, .int .i64 r.pos, .int .i64 r.last, .slice ea le ec] 36))) := below_one w _
  have HR := Lib.hid (h.below HB0.out)
  have H0 := Lib.hid h
  have HLM := Lib.hid hlm
  have HLE := Lib.hid hle
  have HY := Lib.hid hyes
  have HSE := Lib.hid s3
  have HEE : Hid (encR r = encs [r.kind, r.epoch, r.pos, r.last, (lm : Int)] ++ encs r.mem ++ (encs [(le : Int)] ++ encL encE r.ents)) := by show _ = _; unfold encR; rw [hlm, hle]
  have HEL : Hid ((encR r).length ≤ 2000000) := encR_len r hyes
  have HI5 : Hid (∀ z ∈ [r.kind, r.epoch, r.pos, r.last, (lm : Int)], I64 z) := by have := h.wf.five (by omega); rw [hlm] at this; exact this
  clear h hlm hle hyes s3
  go_enter Try.func39, Try.ntmps39
  go_wp2_with fail
  refine (soundRecord_any _ _ _ _ _ _ r _ HR.out HLM.out HLE.out).mono ?_
  rintro e w1 ⟨rfl, hb1⟩
  have b0 := box_later hb1 0 (.int .i64 r.kind) rfl
  have b1 := box_later hb1 1 (.int .i64 r.epoch) rfl
  have b2 := box_later hb1 2 (.slice ma lm mc) rfl
  have b3 := box_later hb1 3 (.int .i64 r.pos) rfl
  have b4 := box_later hb1 4 (.int .i64 r.last) rfl
  have b5 := box_later hb1 5 (.slice ea le ec) rfl
  have HB1 := Lib.hid (HB0.out.trans (hb1.mono (by simp)))
  have HR1 := Lib.hid (HR.out.below hb1)
  have HI := Lib.hid (ints_lit w1 [r.kind, r.epoch, r.pos, r.last, (lm : Int)] #[.int .i64 r.kind, .int .i64 r.epoch, .int .i64 r.pos, .int .i64 r.last, .int .i64 (lm : Int)] 5 w1.heap.size rfl rfl rfl HI5.out (by unfold maxLen; omega))
  clear hb1
  rw [HY.out]
  go_wp2_with fail
  refine (packedNumbers_own _ _ 5 _ _ rfl HI.out (by omega) (by omega)).mono ?_
  rintro e w2 ⟨g2, c2, rfl, ho2, hb2⟩
  have hb12 := (below_one w1 _).trans (hb2.mono (by simp))
  have b22 := cell_later hb12 b2
  have b25 := cell_later hb12 b5
  have HB2 := Lib.hid (HB1.out.trans (hb12.mono HB1.out.size))
  have HO2 : Hid (OwnB w2 (w.heap.size + 1) g2 c2 (encs [r.kind, r.epoch, r.pos, r.last, (lm : Int)])) := ho2.base (by have := HB1.out.size; simp; omega)
  have HLA : Hid ((encs [r.kind, r.epoch, r.pos, r.last, (lm : Int)]).length ≤ 50) := Nat.le_trans (encs_len _) (by simp)
  have HR2 := Lib.hid (HR1.out.below hb12)
  clear ho2 hb2 hb12 HI b0 b1 b2 b3 b4 b5
  generalize encs [r.kind, r.epoch, r.pos, r.last, (lm : Int)] = A at *
  generalize hq : A.length = q at *
  have HQ := Lib.hid hq
  clear hq
  go_wp2_with fail
  refine (packedNumbers_any _ _ _ r.mem _ HLM.out HR2.out.mem (by omega)).mono ?_
  rintro e w3 ⟨x3, c3, rfl, hs3, hb3⟩
  have b35 := cell_later hb3 b25
  have HB3 := Lib.hid (HB2.out.trans (hb3.mono HB2.out.size))
  have HO3 := Lib.hid (HO2.out.chg (gs := []) (Chg.of_below hb3) (by simp))
  have HS3 := Lib.hid hs3
  have hg2 := HO2.out.lt.1
  have hsz3 := HB3.out.size
  have hw3 := World.block_lt_of_cell? w3 ⟨w.heap.size, 5, none⟩ b35
  have HLM2 : Hid ((encs r.mem).length ≤ 160) := by
    have := encs_len r.mem
    rw [HLM.out] at this
    show _ ≤ _
    omega
  clear hs3 hb3 b22 b25
  generalize hqm : (encs r.mem).length = qm at *
  have HQM := Lib.hid hqm
  clear hqm
  have hw3' : w.heap.size < w3.heap.size := hw3
  go_wp2_with (at_builtin; refine wpList_appB rfl (.tmp 25) (.tmp 29) rfl (w.heap.size + 1) g2 c2 A (encs r.mem) (by rw [HQ.out]; rfl) HO3.out _ _ (by rw [HQM.out]; rfl) HS3.out (by have := HLA.out; have := HQ.out; have := HLM2.out; have := HQM.out; omega) hw3' ?_; intro g4 c4 w4 ho4 chg4 hg4; have b45 := chg4.cell b35 (by simp; omega); have HLA4 : Hid ((A ++ encs r.mem).length ≤ 300) := (by have := HLA.out; have := HQ.out; have := HLM2.out; have := HQM.out; show _ ≤ _; rw [List.length_append]; omega); generalize A ++ encs r.mem = A4 at *; generalize hq4 : A4.length = q4 at *)
  have HB4 := Lib.hid (chg4.below HB3.out HB3.out.size (by simp; omega))
  have HO4 := Lib.hid ho4
  have HI1 := Lib.hid (ints_lit w4 [(le : Int)] #[.int .i64 (le : Int)] 1 w4.heap.size rfl rfl rfl (by intro z hz; simp at hz; subst hz; exact ⟨by omega, by omega⟩) (by unfold maxLen; omega))
  clear ho4 chg4 hg4 HO3 HO2
  have HQ4 := Lib.hid hq4
  clear hq4
  go_wp2_with fail
  refine (packedNumbers_any _ _ 1 _ _ rfl HI1.out (by omega)).mono ?_
  rintro e w5 ⟨x5, c5, rfl, hs5, hb5⟩
  have hb45 := (below_one w4 _).trans (hb5.mono (by simp))
  have b55 := cell_later hb45 b45
  have HB5 := Lib.hid (HB4.out.trans (hb45.mono HB4.out.size))
  have HO5 := Lib.hid (HO4.out.chg (gs := []) (Chg.of_below hb45) (by simp))
  have HS5 := Lib.hid hs5
  have hg4 := HO4.out.lt.1
  have hw5 := World.block_lt_of_cell? w5 ⟨w.heap.size, 5, none⟩ b55
  have hw5' : w.heap.size < w5.heap.size := hw5
  have HL1 : Hid ((encs [(le : Int)]).length ≤ 10) := Nat.le_trans (encs_len _) (by simp)
  clear hs5 hb5 hb45 HI1 b45
  generalize encs [(le : Int)] = A5 at *
  generalize hq5 : A5.length = q5 at *
  have HQ5 := Lib.hid hq5
  clear hq5
  go_wp2_with (at_builtin; refine wpList_appB rfl (.tmp 31) (.tmp 36) rfl (w.heap.size + 1) g4 c4 A4 A5 (by rw [HQ4.out]; rfl) HO5.out _ _ (by rw [HQ5.out]; rfl) HS5.out (by have := HLA4.out; have := HL1.out; have := HQ4.out; have := HQ5.out; omega) hw5' ?_; intro g6 c6 w6 ho6 chg6 hg6; have b65 := chg6.cell b55 (by simp; omega); have HLA6 : Hid ((A4 ++ A5).length ≤ 310) := (by have := HLA4.out; have := HL1.out; have := HQ4.out; have := HQ5.out; show _ ≤ _; rw [List.length_append]; omega); have HEE6 : Hid (encR r = (A4 ++ A5) ++ encL encE r.ents) := (by show _ = _; rw [HEE.out, List.append_assoc]); clear HEE; generalize A4 ++ A5 = A6 at *; generalize hq6 : A6.length = q6 at *)
  have HB6 := Lib.hid (chg6.below HB5.out HB5.out.size (by simp; omega))
  have HO6 : Hid (OwnB w6 (w.heap.size + 1) g6 c6 (A6 ++ encL encE (r.ents.take 0))) := by
    show OwnB _ _ _ _ _
    rw [List.take_zero, encL_nil, List.append_nil]
    exact ho6
  clear ho6 chg6 hg6 HO5 HO4
  have HQ6 := Lib.hid hq6
  clear hq6
  go_wp2
  go_loopw [4, 6, 41] (fun v _ i ws => ∃ k g c : Nat, k ≤ le ∧ i = .int .i64 k ∧ v = .slice (some ⟨g, 0, none⟩) (A6 ++ encL encE (r.ents.take k)).length c ∧ Hid (OwnB ws (w.heap.size + 1) g c (A6 ++ encL encE (r.ents.take k))) ∧ Hid (Below w.heap.size w ws) ∧ Hid (w.heap.size < ws.heap.size)) (fun _ _ i _ => le - (intOf i).toNat)
  case atStart =>
    exact ⟨0, g6, c6, Nat.zero_le _, rfl, by rw [List.take_zero, encL_nil, List.append_nil, HQ6.out], HO6, HB6, World.block_lt_of_cell? w6 ⟨w.heap.size, 5, none⟩ b65⟩
  case round =>
    obtain ⟨k, g, c, hk, rfl, rfl, HO, HB, HZ⟩ := hrel
    by_cases hlt : k < le
    · obtain ⟨b, off, loc, cc, rfl, hc⟩ := (H0.out.below HB.out).ents.el k (by rw [HLE.out]; exact hlt)
      have HWF := Lib.hid (H0.out.ents.wf _ (getD_mem r.ents k pe0 (by rw [HLE.out]; exact hlt)))
      have HSN := Lib.hid (HSE.out _ (getD_mem r.ents k pe0 (by rw [HLE.out]; exact hlt)))
      have HN : Hid (A6 ++ encL encE (r.ents.take (k + 1)) = (A6 ++ encL encE (r.ents.take k)) ++ encE (r.ents.getD k pe0)) := by
        show _ = _
        rw [encL_snoc encE r.ents pe0 k (by rw [HLE.out]; exact hlt), List.append_assoc]
      have HLT : Hid ((A6 ++ encL encE (r.ents.take k)).length ≤ 2000000) := by
        have h1 := encL_take encE r.ents k
        have h2 := HEL.out
        rw [HEE6.out, List.length_append] at h2
        show _ ≤ _
        rw [List.length_append]
        omega
      have c0 := hc.c0
      have c1 := hc.c1
      have c2 := hc.c2
      have c3 := hc.c3
      have c4 := hc.c4
      have c5 := hc.c5
      have c6 := hc.c6
      have c7 := hc.c7
      have HSF := Lib.hid (hc.seen.below (below_one wr (.cells #[.int .i64 (r.ents.getD k pe0).seq, .int .i64 (r.ents.getD k pe0).client, .int .i64 (r.ents.getD k pe0).num, .int .i64 (r.ents.getD k pe0).op, .string (strB (r.ents.getD k pe0).key), .int .i64 (r.ents.getD k pe0).size, .int .u32 ((r.ents.getD k pe0).sum : Int), .slice loc (r.ents.getD k pe0).frag.length cc] 52)))
      clear hc
      generalize r.ents.getD k pe0 = p at *
      generalize hqa : (A6 ++ encL encE (r.ents.take k)).length = qa at *
      have HQA := Lib.hid hqa
      clear hqa
      have HSL := Lib.hid (sndE_lens p HSN.out)
      go_wp2_with fail
      refine (packedEntry_own p loc cc _ HWF.out (by have := HSL.out; omega) (by have := HSL.out; omega) HSF.out).mono ?_
      rintro e w7 ⟨g7, c7', rfl, ho7, hb7⟩
      have hb07 := (below_one wr _).trans (hb7.mono (by simp))
      have HB7 := Lib.hid (HB.out.trans (hb07.mono HB.out.size))
      have HO7 := Lib.hid (HO.out.chg (gs := []) (Chg.of_below hb07) (by simp))
      have HS7 := Lib.hid ho7.seenAt
      have hw7 : w.heap.size + 1 ≤ w7.heap.size := by have := HZ.out; have := hb07.size; omega
      have hgl := HO.out.lt.1
      have HL7 := Lib.hid (encE_small p HSN.out)
      clear ho7 hb7 hb07
      generalize hq7 : (encE p).length = q7 at *
      have HQ7 := Lib.hid hq7
      clear hq7
      go_wp2_with (at_builtin; refine wpList_appB rfl (.tmp 45) (.tmp 47) rfl (w.heap.size + 1) g c (A6 ++ encL encE (r.ents.take k)) (encE p) (by rw [HQA.out]; rfl) HO7.out _ _ (by rw [HQ7.out]; rfl) HS7.out (by have := HLT.out; have := HL7.out; have := HQ7.out; have := HQA.out; omega) hw7 ?_; intro g8 c8 w8 ho8 chg8 hg8; rw [← HN.out] at ho8 ⊢)
      have HB8 := Lib.hid (chg8.below HB7.out HB7.out.size (by simp; omega))
      have HO8 : Hid (OwnB w8 (w.heap.size + 1) g8 c8 (A6 ++ encL encE (r.ents.take (k + 1)))) := by
        exact ho8
      have HZ8 : Hid (w.heap.size < w8.heap.size) := by have := chg8.size; show _ < _; omega
      clear ho8 chg8 hg8
      go_roundw
      case rel => exact ⟨k + 1, g8, c8, by omega, by go_num, by rw [List.length_append], HO8, HB8, HZ8⟩
      case measure => simp [intOf]; omega
    · obtain rfl : k = le := by omega
      have HT : Hid (r.ents.take k = r.ents) := List.take_of_length_le (by rw [HLE.out]; omega)
      rw [HT.out, ← HEE6.out] at HO ⊢
      have HF : Hid (RetE w (encR r) (.returned (.tuple #[.slice (some ⟨g, 0, none⟩) (encR r).length c, .int .i64 0])) wr) := ⟨g, c, rfl, HO.out.base (by omega), HB.out⟩
      generalize (encR r).length = q at *
      go_wp2
      go_ret2
      exact HF.out

end Go.Proofs.Ythnjohjcekelpaa
