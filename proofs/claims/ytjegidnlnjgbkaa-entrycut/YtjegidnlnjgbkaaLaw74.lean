/-
  The walk of the law EntryCut.
-/
import Derived.Test.YtjegidnlnjgbkaaLaw71
import Derived.Deep.DeepCutAuto
namespace Go.Proofs.Ytjegidnlnjgbkaa
open Go.RowKit

theorem sliceN (b off q c l : Nat) (h : l ≤ c) (w : World) : (Instr.slice 29 (.slice (some ⟨b, off, none⟩) q c) none (some (.int .i64 (l : Int))) none).run Try.prog w = .ok (.slice (some ⟨b, off, none⟩) l c) w := by
  rw [run_slice_h w 29 (some ⟨b, off, none⟩) q c (by kernel_rfl) .i64 (l : Int) (by omega) (by omega)]
  have hs : (sizeOf (Try.prog.elem 29)).run Try.prog w = .ok 1 w := by kernel_rfl
  rw [hs]
  simp [Result.andThen, sliced, Addr.add]

theorem sliceN' (b off q c l : Nat) (h : l ≤ c) (w : World) : (Instr.sliceAt 29 (.slice (some ⟨b, off, none⟩) q c) none (some (.int .i64 (l : Int))) none).run Try.prog w = .ok (.slice (some ⟨b, off, none⟩) l c) w := by
  rw [run_sliceAt_slice w 29 _ _ _ _ (by kernel_rfl)]
  exact sliceN b off q c l h w

theorem encR_pos (r : Pr) : 1 ≤ (encR r).length := by
  have := (Pk.num_len r.kind).1
  unfold encR encs
  simp only [List.map_cons, List.flatten_cons, List.length_append]
  omega

theorem own_nilB (w : World) (base B : Nat) (h : base ≤ w.heap.size) (hB : w.heap.size = B) : OwnB (w.alloc (.cells #[] 5)) base B 0 [] := by
  subst hB
  exact ownB_lit w base [] #[] rfl bytes_nil h (by unfold maxLen; simp)

set_option maxRecDepth 100000 in
set_option maxHeartbeats 1000000 in
theorem entryCut_long (ma ea : Option Addr) (mc ec lm le : Nat) (k ep p la m : Int) (w : World) (h : 60 < le ∨ 200 < lm) (h0 : lm ≤ maxLen) (h2 : le ≤ maxLen) :
    Calls Try.prog 6 #[.agg #[.int .i64 k, .int .i64 ep, .slice ma lm mc, .int .i64 p, .int .i64 la, .slice ea le ec], .int .u8 m] w fun e w' => e = .returned (.bool true) ∧ Below w.heap.size w w' := by
  unfold maxLen at h0 h2
  have E0 : Hid (Ext w (w.alloc (.cells #[.int .i64 k, .int .i64 ep, .slice ma lm mc, .int .i64 p, .int .i64 la, .slice ea le ec] 27))) := below_one w _
  by_cases hl : 60 < le
  · have hd : decide ((60 : Int) < (le : Int)) = true := by simp; omega
    go_enter Try.func6, Try.ntmps6
    go_wp2_with fail
    refine (awake7 _).mono ?_
    rintro e w1 ⟨rfl, hb1⟩
    have E1 := Lib.hid (E0.out.trans hb1)
    clear hb1
    go_wp2
    go_ret
    exact ⟨rfl, E1.out⟩
  · have hd : decide ((60 : Int) < (le : Int)) = false := by simp; omega
    have hd' : decide ((200 : Int) < (lm : Int)) = true := by simp; omega
    go_enter Try.func6, Try.ntmps6
    go_wp2_with fail
    refine (awake7 _).mono ?_
    rintro e w1 ⟨rfl, hb1⟩
    have E1 := Lib.hid (E0.out.trans hb1)
    clear hb1
    go_wp2
    go_ret
    exact ⟨rfl, E1.out⟩

set_option maxRecDepth 100000 in
set_option maxHeartbeats 1000000 in
theorem entryCut_no (ma ea : Option Addr) (mc ec lm le : Nat) (r : Pr) (m : Int) (w : World) (h : RecAt w ma mc ea ec r) (hlm : r.mem.length = lm) (hle : r.ents.length = le) (h0 : lm ≤ 200) (h2 : le ≤ 60) (hno : sndR r = false) :
    Calls Try.prog 6 #[.agg #[.int .i64 r.kind, .int .i64 r.epoch, .slice ma lm mc, .int .i64 r.pos, .int .i64 r.last, .slice ea le ec], .int .u8 m] w fun e w' => e = .returned (.bool true) ∧ Below w.heap.size w w' := by
  have hd : decide ((60 : Int) < (le : Int)) = false := by simp; omega
  have hd' : decide ((200 : Int) < (lm : Int)) = false := by simp; omega
  have E0 : Hid (Ext w (w.alloc (.cells #[.int .i64 r.kind, .int .i64 r.epoch, .slice ma lm mc, .int .i64 r.pos, .int .i64 r.last, .slice ea le ec] 27))) := below_one w _
  have HR := Lib.hid (h.below E0.out)
  have HLM := Lib.hid hlm
  have HLE := Lib.hid hle
  have HN := Lib.hid hno
  clear h hlm hle hno
  go_enter Try.func6, Try.ntmps6
  go_wp2_with fail
  generalize (w.alloc (.cells #[.int .i64 r.kind, .int .i64 r.epoch, .slice ma lm mc, .int .i64 r.pos, .int .i64 r.last, .slice ea le ec] 27)) = w0 at *
  refine (encode_no _ _ _ _ _ _ r _ HR.out HLM.out HLE.out HN.out).mono ?_
  rintro e w1 ⟨rfl, hb1⟩
  have E1 := Lib.hid (E0.out.trans hb1)
  clear hb1
  go_wp2_with fail
  refine (awake7 _).mono ?_
  rintro e w3 ⟨rfl, hb3⟩
  have E3 := Lib.hid (E1.out.trans hb3)
  clear hb3
  go_wp2
  go_ret
  exact ⟨rfl, E3.out⟩

set_option maxRecDepth 100000 in
set_option maxHeartbeats 2000000 in
theorem entryCut_yes (ma ea : Option Addr) (mc ec lm le : Nat) (r : Pr) (m : Nat) (hm : m < 256) (w : World) (h : RecAt w ma mc ea ec r) (hlm : r.mem.length = lm) (hle : r.ents.length = le) (h0 : lm ≤ 200) (h2 : le ≤ 60) (hyes : sndR r = true) :
    Calls Try.prog 6 #[.agg #[.int .i64 r.kind, .int .i64 r.epoch, .slice ma lm mc, .int .i64 r.pos, .int .i64 r.last, .slice ea le ec], .int .u8 (m : Int)] w fun e w' => e = .returned (.bool true) ∧ Below w.heap.size w w' := by
  have hd : decide ((60 : Int) < (le : Int)) = false := by simp; omega
  have hd' : decide ((200 : Int) < (lm : Int)) = false := by simp; omega
  have E0 : Hid (Ext w (w.alloc (.cells #[.int .i64 r.kind, .int .i64 r.epoch, .slice ma lm mc, .int .i64 r.pos, .int .i64 r.last, .slice ea le ec] 27))) := below_one w _
  have HR := Lib.hid (h.below E0.out)
  have HLM := Lib.hid hlm
  have HLE := Lib.hid hle
  have HY := Lib.hid hyes
  obtain ⟨q, hq⟩ : ∃ q, (encR r).length = q := ⟨_, rfl⟩
  have hq1 : 1 ≤ q := by rw [← hq]; exact encR_pos r
  have hq2 : q ≤ 2000000 := by rw [← hq]; exact encR_len r hyes
  obtain ⟨n, hn⟩ : ∃ n : Nat, n + 1 = q := ⟨q - 1, by omega⟩
  have HNO1 := Lib.hid (dec_less r n h.wf hyes (by omega))
  have HNO2 := Lib.hid (dec_more r m hm h.wf hyes)
  have HT : Hid ((List.take n (encR r)).length = n) := by show _ = _; rw [List.length_take]; omega
  have Q := Lib.hid hq
  have hz : ((q : Int) == 0) = false := by simp; omega
  have hqn : (q : Int) - 1 = (n : Int) := by omega
  have HNQ : Hid (n + 1 = q) := hn
  clear h hlm hle hyes hq hn
  go_enter Try.func6, Try.ntmps6
  go_wp2_with fail
  generalize (w.alloc (.cells #[.int .i64 r.kind, .int .i64 r.epoch, .slice ma lm mc, .int .i64 r.pos, .int .i64 r.last, .slice ea le ec] 27)) = w0 at *
  refine (encode_yes _ _ _ _ _ _ r _ HR.out HLM.out HLE.out HY.out).mono ?_
  rintro e w1 ⟨g, c, rfl, ho1, hb1⟩
  rw [Q.out]
  have E1 := Lib.hid (E0.out.trans hb1)
  have HO1 := Lib.hid ho1.seenAt
  have hcq : q ≤ c := by have := ho1.seenAt.le; have := Q.out; omega
  have hsl := sliceN g 0 q c n (by have := HNQ.out; omega)
  have hsl' := sliceN' g 0 q c n (by have := HNQ.out; omega)
  clear ho1 hb1 E0 HR
  go_wp2_with fail
  clear hsl hsl'
  refine (decode_no _ _ _ (List.take n (encR r)) _ HT.out (by have := HNQ.out; omega) (HO1.out.take n) HNO1.out).mono ?_
  rintro e w2 ⟨rfl, hb2⟩
  have hb3 := below_one w2 (.cells #[.int .i64 0, .int .i64 0, .slice none 0 0, .int .i64 0, .int .i64 0, .slice none 0 0] 27)
  have E3 := Lib.hid ((E1.out.trans hb2).trans hb3)
  have HO3 := Lib.hid ((HO1.out.below hb2).below hb3)
  clear hb2 hb3 E1 HO1
  go_upto_region 7 with fail
  generalize w2.heap.size = B2 at *
  generalize (w2.alloc (.cells #[.int .i64 0, .int .i64 0, .slice none 0 0, .int .i64 0, .int .i64 0, .slice none 0 0] 27)) = w3 at *
  have HC4 := Lib.hid (own_nilB w3 w.heap.size w3.heap.size E3.out.size rfl)
  have HO4 := Lib.hid (HO3.out.below (below_one _ (.cells #[] 5)))
  have E4 := Lib.hid (E3.out.trans (below_one _ (.cells #[] 5)))
  have HW3 := Lib.hid E3.out.size
  clear E3 HO3
  go_wp2_with (first
    | (at_builtin; refine wpList_appB rfl (.tmp 50) (.tmp 51) rfl w.heap.size w3.heap.size 0 [] (encR r) rfl HC4.out _ c (by rw [Q.out]; rfl) HO4.out (by have := Q.out; simp; omega) E4.out.size ?_; intro g5 c5 w5 ho5 chg5 hg5; rw [List.nil_append] at ho5 ⊢; rw [Q.out]; have E5 : Hid (Ext w w5) := (chg5.below E4.out E4.out.size (by have := HW3.out; simp; omega)); have HO5 := Lib.hid ho5; clear ho5 chg5 hg5; have HO7 := Lib.hid (HO5.out.chg (gs := []) (Chg.of_below (below_one _ (.cells #[.int .u8 (m : Int)] 5))) (by simp)); have HS7 := Lib.hid (seen_byteB w5 m w5.heap.size hm rfl); have E7 := Lib.hid (E5.out.trans (below_one w5 (.cells #[.int .u8 (m : Int)] 5))))
    | (at_builtin; refine wpList_appB rfl (.tmp 52) (.tmp 54) rfl w.heap.size g5 c5 (encR r) [m] (by rw [Q.out]; rfl) HO7.out _ 1 rfl HS7.out (by have := Q.out; simp; omega) E7.out.size ?_; intro g8 c8 w8 ho8 chg8 hg8; have HL8 : Hid ((encR r ++ [m]).length ≤ 2000001) := (by have := Q.out; show _ ≤ _; simp; omega); generalize encR r ++ [m] = A8 at *; generalize hq8 : A8.length = q8 at *))
  have hg7 : w.heap.size ≤ g5 := HO5.out.lt.1
  have HQ8 := Lib.hid hq8
  have E8 : Hid (Ext w w8) := chg8.below E7.out E7.out.size (by simp; omega)
  have HS8 := Lib.hid ho8.seenAt
  clear ho8 chg8 hq8 HO7 HS7 E7 E5 HO5
  refine (decode_no _ _ _ A8 _ HQ8.out (by have := HL8.out; have := HQ8.out; omega) HS8.out HNO2.out).mono ?_
  rintro e w9 ⟨rfl, hb9⟩
  have hbz := below_one w9 (.cells #[.int .i64 0, .int .i64 0, .slice none 0 0, .int .i64 0, .int .i64 0, .slice none 0 0] 27)
  have E9 := Lib.hid ((E8.out.trans hb9).trans hbz)
  clear hb9 hbz E8
  go_wp2_with fail
  refine (awake7 _).mono ?_
  rintro e w10 ⟨rfl, hb10⟩
  have E10 := Lib.hid (E9.out.trans hb10)
  clear hb10
  go_wp2
  go_ret
  exact ⟨rfl, E10.out⟩

theorem entryCut_walk (ma ea : Option Addr) (mc ec : Nat) (r : Pr) (m : Int) (w : World) (h : RecAt w ma mc ea ec r) (hm : (Lit.int .u8 m).wf = true) :
    Calls Try.prog 6 #[.agg #[.int .i64 r.kind, .int .i64 r.epoch, .slice ma r.mem.length mc, .int .i64 r.pos, .int .i64 r.last, .slice ea r.ents.length ec], .int .u8 m] w fun e w' => e = .returned (.bool true) ∧ Below w.heap.size w w' := by
  have h0 : r.mem.length ≤ maxLen := by have := h.mem.le; have := h.mem.max; omega
  have h2 : r.ents.length ≤ maxLen := by have := h.ents.le; have := h.ents.max; omega
  obtain ⟨n, hn, rfl⟩ : ∃ n : Nat, n < 256 ∧ m = (n : Int) := by
    have h1 : 0 ≤ m ∧ m ≤ 255 := by simpa [Lit.wf, IntKind.min, IntKind.max, IntKind.signed, IntKind.bits] using hm
    exact ⟨m.toNat, by omega, by omega⟩
  by_cases hlong : 60 < r.ents.length ∨ 200 < r.mem.length
  · exact entryCut_long ma ea mc ec _ _ _ _ _ _ _ w hlong h0 h2
  · cases hs : sndR r with
    | false => exact entryCut_no ma ea mc ec _ _ r _ w h rfl rfl (by omega) (by omega) hs
    | true => exact entryCut_yes ma ea mc ec _ _ r n hn w h rfl rfl (by omega) (by omega) hs

end Go.Proofs.Ytjegidnlnjgbkaa
