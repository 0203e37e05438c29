/-
  The bytes of entries and records, by the reference: nums, One, Many, Record; SameRec, Same; bytes.Equal and the program's Same.
-/
import Derived.Test.YtdgpbdedaafdiaaGreatWalksY1
import Derived.Test.YtdgpbdedaafdiaaGreatExt
namespace Go.Proofs.YtdgpbdedaafdiaaGreat
open Go.RowKit


set_option maxRecDepth 100000 in
set_option maxHeartbeats 1000000 in
theorem nums_own (a : Option Addr) (cap l : Nat) (zs : List Int) (w : World) (hl : zs.length = l) (h : IntsAt w a cap zs) (hm : l ≤ 1000000) :
    Calls Tryz.prog 65 #[.slice a l cap] w (RetO w (encs zs)) := by
  have HI := Lib.hid h
  have HL := Lib.hid hl
  clear h hl
  go_enter Tryz.func65, Tryz.ntmps65
  go_wp2
  go_loopw [3, 4] (fun v i ws => ∃ (k g c : Nat), k ≤ l ∧ i = .int .i64 k ∧ v = .slice (some ⟨g, 0, none⟩) (encs (zs.take k)).length c ∧ Hid (OwnB ws w.heap.size g c (encs (zs.take k))) ∧ Hid (Below w.heap.size w ws)) (fun _ i _ => l - (intOf i).toNat)
  case atStart => exact ⟨0, w.heap.size, 0, Nat.zero_le _, rfl, rfl, ownB_lit w _ [] #[] rfl bytes_nil (Nat.le_refl _) (by simp), below_one w _⟩
  case round =>
    obtain ⟨k, g, c, hk, rfl, rfl, HO, HB⟩ := hrel
    by_cases hlt : k < l
    · have j0 : (0 : Int) ≤ (k : Int) := by omega
      have j1 : (k : Int) < (l : Int) := by omega
      obtain ⟨b, off, rfl, hc⟩ := (HI.out.below HB.out).cell k (by rw [HL.out]; exact hlt)
      have hz := HI.out.wf k
      have HN := Lib.hid (encs_snoc zs k (by rw [HL.out]; exact hlt))
      have HLN : Hid ((encs (zs.take k)).length ≤ 10000000) := by
        have := encs_len (zs.take k)
        have : (zs.take k).length ≤ k := List.length_take_le _ _
        show _ ≤ _
        omega
      generalize hq : (encs (zs.take k)).length = q at *
      have HQ := Lib.hid hq
      clear hq
      generalize zs.getD k 0 = z at *
      go_wp2_with fail
      refine (refNum_any z _ hz.1 hz.2).mono ?_
      rintro e w2 ⟨g2, c2, rfl, ho2, hb2⟩
      have HS2 := Lib.hid ho2.seenAt
      have HO2 := Lib.hid (HO.out.chg (gs := []) (Chg.of_below hb2) (by simp))
      have HB2 := Lib.hid (HB.out.trans (hb2.mono HB.out.size))
      have HZL := Lib.hid (Pk.num_len z).2
      have hg := HO.out.lt.1
      clear ho2 hb2
      generalize hq2 : (Pk.num z).length = q2 at *
      have HQ2 := Lib.hid hq2
      clear hq2
      go_wp2_with (at_builtin; refine wpList_appB rfl (.tmp 12) (.tmp 17) rfl w.heap.size g c (encs (zs.take k)) (Pk.num z) (by rw [HQ.out]; rfl) HO2.out _ _ (by rw [HQ2.out]; rfl) HS2.out (by have := HLN.out; have := HQ.out; have := HZL.out; have := HQ2.out; omega) HB2.out.size ?_; intro g3 c3 w3 ho3 chg3 hg3; rw [← HN.out] at ho3 ⊢)
      have HO3 := Lib.hid ho3
      have HB3 := Lib.hid (chg3.below HB2.out HB2.out.size (by simp; omega))
      clear ho3 chg3 hg3
      go_roundw
      case rel => exact ⟨k + 1, g3, c3, by omega, by go_num, rfl, HO3, HB3⟩
      case measure => simp [intOf]; omega
    · obtain rfl : k = l := by omega
      have HT : Hid (zs.take k = zs) := List.take_of_length_le (by rw [HL.out]; omega)
      rw [HT.out] at HO ⊢
      have HF : Hid (RetO w (encs zs) (.returned (.slice (some ⟨g, 0, none⟩) (encs zs).length c)) wr) := ⟨g, c, rfl, HO.out, HB.out⟩
      generalize (encs zs).length = q at *
      go_wp2
      go_ret
      exact HF.out

set_option maxRecDepth 100000 in
set_option maxHeartbeats 1000000 in
theorem one_own (e : Pe) (loc : Option Addr) (c : Nat) (w : World) (hw : e.Wf) (hk : e.key.length ≤ 10000000) (hf : e.frag.length ≤ 10000000) (hs : SeenAt w loc c e.frag) :
    Calls Tryz.prog 51 #[.agg #[.int .i64 e.seq, .int .i64 e.client, .int .i64 e.num, .int .i64 e.op, .string (strB e.key), .int .i64 e.size, .int .u32 (e.sum : Int), .slice loc e.frag.length c]] w (RetO w (encE e)) := by
  have hsum := hw.sum
  obtain ⟨lf, hlf⟩ : ∃ q, e.frag.length = q := ⟨_, rfl⟩
  rw [hlf] at hf ⊢
  have HLF := Lib.hid hlf
  have HB0 : Hid (Below w.heap.size w (w.alloc (.cells #[.int .i64 e.seq, .int .i64 e.client, .int .i64 e.num, .int .i64 e.op, .string (strB e.key), .int .i64 e.size, .int .u32 (e.sum : Int), .slice loc lf c] 41))) := below_one w _
  have HI := Lib.hid (ints_lit (w.alloc (.cells #[.int .i64 e.seq, .int .i64 e.client, .int .i64 e.num, .int .i64 e.op, .string (strB e.key), .int .i64 e.size, .int .u32 (e.sum : Int), .slice loc lf c] 41)) [e.seq, e.client, e.num, e.op, e.size, (e.sum : Int)] #[.int .i64 e.seq, .int .i64 e.client, .int .i64 e.num, .int .i64 e.op, .int .i64 e.size, .int .i64 (e.sum : Int)] 6 (w.heap.size + 1) (by simp) rfl rfl hw.six (by unfold maxLen; omega))
  have HK := Lib.hid hw.key
  have HS := Lib.hid hs
  have HLK := Lib.hid hk
  have HEE : Hid (encE e = encs [e.seq, e.client, e.num, e.op, e.size, (e.sum : Int)] ++ Pk.txt e.key ++ Pk.txt e.frag) := rfl
  have HL6 : Hid ((encs [e.seq, e.client, e.num, e.op, e.size, (e.sum : Int)]).length ≤ 60) := Nat.le_trans (encs_len _) (by simp)
  have HT1 := Lib.hid (Pk.txt_len e.key).2
  have HT2 := Lib.hid (Pk.txt_len e.frag).2
  clear hw hs hlf
  go_enter Tryz.func51, Tryz.ntmps51
  go_wp2_with fail
  refine (nums_own _ _ 6 _ _ rfl HI.out (by omega)).mono ?_
  rintro x w1 ⟨g1, c1, rfl, ho1, hb1⟩
  have hb01 := (below_one _ _).trans (hb1.mono (by simp))
  have b4 := box_later hb01 4 (.string (strB e.key)) rfl
  have b7 := box_later hb01 7 (.slice loc lf c) rfl
  have HB1 := Lib.hid (HB0.out.trans (hb01.mono (by simp)))
  have HO1 : Hid (OwnB w1 (w.heap.size + 1) g1 c1 (encs [e.seq, e.client, e.num, e.op, e.size, (e.sum : Int)])) := ho1.base (by simp)
  clear ho1 hb1 hb01 HI
  generalize encs [e.seq, e.client, e.num, e.op, e.size, (e.sum : Int)] = A at *
  generalize hq : A.length = q at *
  have HQ := Lib.hid hq
  clear hq
  obtain ⟨c2, w2, hcv, hs2, hb2⟩ := conv_str w1 e.key HK.out (by have := HLK.out; omega)
  have HS2 := Lib.hid hs2
  have HB2 := Lib.hid (HB1.out.trans (hb2.mono HB1.out.size))
  have b72 := cell_later hb2 b7
  have HO2 := Lib.hid (HO1.out.chg (gs := []) (Chg.of_below hb2) (by simp))
  clear hs2 hb2 b7
  generalize hq2 : e.key.length = lk at *
  have HQ2 := Lib.hid hq2
  clear hq2
  go_wp2_with fail
  refine (refText_any _ _ _ e.key _ HQ2.out (by have := HLK.out; omega) HS2.out).mono ?_
  rintro x w3 ⟨g3, c3, rfl, ho3, hb3⟩
  have HS3 := Lib.hid ho3.seenAt
  have HB3 := Lib.hid (HB2.out.trans (hb3.mono HB2.out.size))
  have b73 := cell_later hb3 b72
  have HO3 := Lib.hid (HO2.out.chg (gs := []) (Chg.of_below hb3) (by simp))
  have hg1 := HO1.out.lt.1
  have hw3 : w.heap.size < w3.heap.size := World.block_lt_of_cell? w3 ⟨w.heap.size, 7, none⟩ b73
  clear ho3 hb3 b72
  generalize hq3 : (Pk.txt e.key).length = q3 at *
  have HQ3 := Lib.hid hq3
  clear hq3
  go_wp2_with (at_builtin; refine wpList_appB rfl (.tmp 19) (.tmp 23) rfl (w.heap.size + 1) g1 c1 A (Pk.txt e.key) (by rw [HQ.out]; rfl) HO3.out _ _ (by rw [HQ3.out]; rfl) HS3.out (by have := HL6.out; have := HQ.out; have := HT1.out; have := HQ3.out; have := HLK.out; omega) hw3 ?_; intro g4 c4 w4 ho4 chg4 hg4; have b74 := chg4.cell b73 (by simp; omega); have HLA4 : Hid ((A ++ Pk.txt e.key).length ≤ 10000070) := (by have := HL6.out; have := HQ.out; have := HT1.out; have := HQ3.out; have := HLK.out; show _ ≤ _; rw [List.length_append]; omega); generalize A ++ Pk.txt e.key = A4 at *; generalize hq4 : A4.length = q4 at *)
  have HQ4 := Lib.hid hq4
  have HB4 := Lib.hid (chg4.below HB3.out HB3.out.size (by simp; omega))
  have HO4 := Lib.hid ho4
  have HS4 := Lib.hid (HS.out.below HB4.out)
  clear hq4 ho4 chg4 hg4 HO1 HO2 HO3 b73
  refine (refText_any _ _ _ e.frag _ HLF.out (by omega) HS4.out).mono ?_
  rintro x w5 ⟨g5, c5, rfl, ho5, hb5⟩
  have HS5 := Lib.hid ho5.seenAt
  have HB5 := Lib.hid (HB4.out.trans (hb5.mono HB4.out.size))
  have b75 := cell_later hb5 b74
  have HO5 := Lib.hid (HO4.out.chg (gs := []) (Chg.of_below hb5) (by simp))
  have hg4 := HO4.out.lt.1
  have hw5 : w.heap.size < w5.heap.size := World.block_lt_of_cell? w5 ⟨w.heap.size, 7, none⟩ b75
  clear ho5 hb5 b74
  generalize hq5 : (Pk.txt e.frag).length = q5 at *
  have HQ5 := Lib.hid hq5
  clear hq5
  go_wp2_with (at_builtin; refine wpList_appB rfl (.tmp 25) (.tmp 28) rfl (w.heap.size + 1) g4 c4 A4 (Pk.txt e.frag) (by rw [HQ4.out]; rfl) HO5.out _ _ (by rw [HQ5.out]; rfl) HS5.out (by have := HLA4.out; have := HQ4.out; have := HT2.out; have := HQ5.out; have := HLF.out; omega) hw5 ?_; intro g6 c6 w6 ho6 chg6 hg6; rw [← HEE.out] at ho6 ⊢)
  have HF : Hid (RetO w (encE e) (.returned (.slice (some ⟨g6, 0, none⟩) (encE e).length c6)) w6) := ⟨g6, c6, rfl, ho6.base (by omega), chg6.below HB5.out HB5.out.size (by simp; omega)⟩
  clear ho6 chg6 hg6
  go_ret
  exact HF.out

end Go.Proofs.YtdgpbdedaafdiaaGreat
