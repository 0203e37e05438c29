/-
  The laws' fixed fact, of layer 7.
-/
import Derived.Test.YtjegidnlnjgbkaaWalksZ1
import Derived.Test.YtjegidnlnjgbkaaWalksY4
import Derived.Test.YtjegidnlnjgbkaaWalksU1
import Derived.Lib.SlBytesConst
namespace Go.Proofs.Ytjegidnlnjgbkaa
open Go.RowKit

def ae : Pe := ⟨1, 0, 1, 1, [107], 1, 2147483648, [120]⟩
def ar : Pr := ⟨1, 0, [], 0, 0, [ae]⟩

theorem ar_snd : sndR ar = true := by decide
theorem ae_snd : sndE ae = true := by decide
theorem ae_wf : ae.Wf := ⟨⟨by decide, by decide⟩, ⟨by decide, by decide⟩, ⟨by decide, by decide⟩, ⟨by decide, by decide⟩, ⟨by decide, by decide⟩, by decide, by intro c hc; simp [ae] at hc; omega, by intro c hc; simp [ae] at hc; omega⟩
theorem ar_wf : ar.Wf := ⟨⟨by decide, by decide⟩, ⟨by decide, by decide⟩, by simp [ar], ⟨by decide, by decide⟩, ⟨by decide, by decide⟩, by intro e he; simp [ar] at he; subst he; exact ae_wf⟩

theorem seen_byteB (w : World) (c B : Nat) (hc : c < 256) (hB : w.heap.size = B) : SeenAt (w.alloc (.cells #[.int .u8 (c : Int)] 5)) (some ⟨B, 0, none⟩) 1 [c] := by
  subst hB
  exact seen_byte w c hc

theorem seen_zeroB (w : World) (B : Nat) (hB : w.heap.size = B) : SeenAt (w.alloc (.cells #[.int .u8 0] 5)) (some ⟨B, 0, none⟩) 1 [0] := seen_byteB w 0 B (by omega) hB

theorem a_enc (a : Option Addr) (x : World) (h : RecAt x none 0 a 1 ar) :
    Calls Try.prog 14 #[.agg #[.int .i64 1, .int .i64 0, .slice none 0 0, .int .i64 0, .int .i64 0, .slice a 1 1]] x (RetE x (encR ar)) :=
  encode_yes none a 0 1 0 1 ar x h rfl rfl ar_snd

theorem a_dec (a : Option Addr) (c l : Nat) (x : World) (hl : (encR ar).length = l) (h : SeenAt x a c (encR ar)) :
    Calls Try.prog 16 #[.slice a l c] x fun e w' => ∃ ma mc ea ec, e = .returned (.tuple #[.agg #[.int .i64 1, .int .i64 0, .slice ma 0 mc, .int .i64 0, .int .i64 0, .slice ea 1 ec], .int .i64 0]) ∧ (∀ gs w2, Chg gs w' w2 → (∀ g ∈ gs, g < x.heap.size) → RecAt w2 ma mc ea ec ar) ∧ Below x.heap.size x w' :=
  (decode_yes a c l (encR ar) x hl (by have := encR_len ar ar_snd; omega) h (dec_yes ar ar_wf ar_snd).1).mono fun e w' h' => by
    rw [(dec_yes ar ar_wf ar_snd).2] at h'
    exact h'

theorem a_same (ma ea a : Option Addr) (mc ec : Nat) (x : World) (h : RecAt x ma mc ea ec ar) (h' : RecAt x none 0 a 1 ar) :
    Calls Try.prog 18 #[.agg #[.int .i64 1, .int .i64 0, .slice ma 0 mc, .int .i64 0, .int .i64 0, .slice ea 1 ec], .agg #[.int .i64 1, .int .i64 0, .slice none 0 0, .int .i64 0, .int .i64 0, .slice a 1 1]] x fun e w' => e = .returned (.bool true) ∧ Below x.heap.size x w' :=
  (sameRec_any ma ea mc ec 0 1 ar none a 0 1 0 1 ar x h rfl rfl (small_of ar_snd) h' rfl rfl (small_of ar_snd)).mono fun e w' hx => by
    rw [show decide (encR ar = encR ar) = true by simp] at hx
    exact hx

theorem a_sound (b : Nat) (x : World) :
    Calls Try.prog 19 #[.agg #[.int .i64 1, .int .i64 0, .int .i64 1, .int .i64 1, .string ⟨#[107]⟩, .int .i64 1, .int .u32 2147483648, .slice (some ⟨b, 0, none⟩) 1 1]] x fun e w' => e = .returned (.bool true) ∧ Below x.heap.size x w' :=
  (sound_raw 1 0 1 1 1 2147483648 ⟨#[107]⟩ (some ⟨b, 0, none⟩) 1 1 x).mono fun e w' h => by
    rw [show sndRaw 1 0 1 1 ⟨#[107]⟩ 1 1 = true by decide] at h
    exact h

theorem a_unsound (x : World) :
    Calls Try.prog 19 #[.agg #[.int .i64 (-1), .int .i64 0, .int .i64 0, .int .i64 0, .string ⟨#[]⟩, .int .i64 0, .int .u32 0, .slice none 0 0]] x fun e w' => e = .returned (.bool false) ∧ Below x.heap.size x w' :=
  (sound_raw (-1) 0 0 0 0 0 ⟨#[]⟩ none 0 0 x).mono fun e w' h => by
    rw [show sndRaw (-1) 0 0 0 ⟨#[]⟩ 0 0 = false by decide] at h
    exact h

theorem a_of (x : World) : Calls Try.prog 32 #[.slice none 0 0] x fun e w' => e = .returned (.int .u32 0) ∧ Below x.heap.size x w' :=
  (refOf_any none 0 0 [] x rfl (by omega) (SeenAt.nil (Nat.zero_le _))).mono fun e w' h => by
    rw [show Crc.sum [] = 0 by decide +kernel] at h
    exact h

theorem a_rec (w : World) : RecAt (((w.alloc (.cells #[.int .u8 120] 5 (1, 2))).alloc (.cells #[.int .i64 1, .int .i64 0, .int .i64 1, .int .i64 1, .string ⟨#[107]⟩, .int .i64 1, .int .u32 2147483648, .slice (some ⟨w.heap.size, 0, none⟩) 1 1] 41)).alloc (.cells #[.int .i64 1, .int .i64 0, .slice none 0 0, .int .i64 0, .int .i64 0, .slice (some ⟨w.heap.size + 1, 0, none⟩) 1 1] 27)) none 0 (some ⟨w.heap.size + 1, 0, none⟩) 1 ar := by
  refine ⟨IntsAt.nil (Nat.zero_le _), ⟨by simp [ar], by unfold maxLen; omega, fun i hi => ?_, ar_wf.ents⟩, ar_wf⟩
  obtain rfl : i = 0 := by simp [ar] at hi; omega
  have hs : SeenAt (((w.alloc (.cells #[.int .u8 120] 5 (1, 2))).alloc (.cells #[.int .i64 1, .int .i64 0, .int .i64 1, .int .i64 1, .string ⟨#[107]⟩, .int .i64 1, .int .u32 2147483648, .slice (some ⟨w.heap.size, 0, none⟩) 1 1] 41)).alloc (.cells #[.int .i64 1, .int .i64 0, .slice none 0 0, .int .i64 0, .int .i64 0, .slice (some ⟨w.heap.size + 1, 0, none⟩) 1 1] 27)) (some ⟨w.heap.size, 0, none⟩) 1 [120] :=
    ((seen_lit w [120] #[.int .u8 120] (1, 2) rfl (by intro c hc; simp at hc; omega) (by unfold maxLen; simp)).below (below_one _ _)).below (below_one _ _)
  have hb : Box ((w.alloc (.cells #[.int .u8 120] 5 (1, 2))).alloc (.cells #[.int .i64 1, .int .i64 0, .int .i64 1, .int .i64 1, .string ⟨#[107]⟩, .int .i64 1, .int .u32 2147483648, .slice (some ⟨w.heap.size, 0, none⟩) 1 1] 41)) (w.heap.size + 1) #[.int .i64 1, .int .i64 0, .int .i64 1, .int .i64 1, .string ⟨#[107]⟩, .int .i64 1, .int .u32 2147483648, .slice (some ⟨w.heap.size, 0, none⟩) 1 1] := box_new _ _ _ _ (by simp)
  obtain ⟨x0, x1, x2, x3, x4, x5, x6, x7⟩ := box8 (hb.below (below_one _ (.cells #[.int .i64 1, .int .i64 0, .slice none 0 0, .int .i64 0, .int .i64 0, .slice (some ⟨w.heap.size + 1, 0, none⟩) 1 1] 27)))
  exact ⟨w.heap.size + 1, 0, some ⟨w.heap.size, 0, none⟩, 1, rfl, x0, x1, x2, x3, x4, x5, x6, x7, hs⟩

set_option maxRecDepth 100000 in
set_option maxHeartbeats 1000000 in
theorem awake7 (w : World) :
    Calls Try.prog 13 #[] w fun e w' => e = .returned (.bool true) ∧ Below w.heap.size w w' := by
  have kc := fun (w : World) (C : Array Value) (n c : Nat) => Lib.run_convert_bytes_const (P := Try.prog) w 29 5 C n c Try.underlying29 Try.underlying5
  have HR := Lib.hid (a_rec w)
  have HX : Hid (Box (((w.alloc (.cells #[.int .u8 120] 5 (1, 2))).alloc (.cells #[.int .i64 1, .int .i64 0, .int .i64 1, .int .i64 1, .string ⟨#[107]⟩, .int .i64 1, .int .u32 2147483648, .slice (some ⟨w.heap.size, 0, none⟩) 1 1] 41)).alloc (.cells #[.int .i64 1, .int .i64 0, .slice none 0 0, .int .i64 0, .int .i64 0, .slice (some ⟨w.heap.size + 1, 0, none⟩) 1 1] 27)) (w.heap.size + 1 + 1) #[.int .i64 1, .int .i64 0, .slice none 0 0, .int .i64 0, .int .i64 0, .slice (some ⟨w.heap.size + 1, 0, none⟩) 1 1]) := box_new _ _ _ _ (by simp)
  have HY : Hid (Box (((w.alloc (.cells #[.int .u8 120] 5 (1, 2))).alloc (.cells #[.int .i64 1, .int .i64 0, .int .i64 1, .int .i64 1, .string ⟨#[107]⟩, .int .i64 1, .int .u32 2147483648, .slice (some ⟨w.heap.size, 0, none⟩) 1 1] 41)).alloc (.cells #[.int .i64 1, .int .i64 0, .slice none 0 0, .int .i64 0, .int .i64 0, .slice (some ⟨w.heap.size + 1, 0, none⟩) 1 1] 27)) (w.heap.size + 1) #[.int .i64 1, .int .i64 0, .int .i64 1, .int .i64 1, .string ⟨#[107]⟩, .int .i64 1, .int .u32 2147483648, .slice (some ⟨w.heap.size, 0, none⟩) 1 1]) := (box_new (w.alloc (.cells #[.int .u8 120] 5 (1, 2))) _ _ _ (by simp)).below (below_one _ _)
  have HB : Hid (Below w.heap.size w (((w.alloc (.cells #[.int .u8 120] 5 (1, 2))).alloc (.cells #[.int .i64 1, .int .i64 0, .int .i64 1, .int .i64 1, .string ⟨#[107]⟩, .int .i64 1, .int .u32 2147483648, .slice (some ⟨w.heap.size, 0, none⟩) 1 1] 41)).alloc (.cells #[.int .i64 1, .int .i64 0, .slice none 0 0, .int .i64 0, .int .i64 0, .slice (some ⟨w.heap.size + 1, 0, none⟩) 1 1] 27))) := ((below_one w _).alloc (by simp) _).alloc (by simp; omega) _
  have HL := Lib.hid (encR_len ar ar_snd)
  have HNO := Lib.hid (dec_more ar 0 (by omega) ar_wf ar_snd)
  have HBY := Lib.hid (encR_bytes ar ar_wf ar_snd)
  go_enter Try.func13, Try.ntmps13
  go_wp2_with fail
  generalize (((w.alloc (.cells #[.int .u8 120] 5 (1, 2))).alloc (.cells #[.int .i64 1, .int .i64 0, .int .i64 1, .int .i64 1, .string ⟨#[107]⟩, .int .i64 1, .int .u32 2147483648, .slice (some ⟨w.heap.size, 0, none⟩) 1 1] 41)).alloc (.cells #[.int .i64 1, .int .i64 0, .slice none 0 0, .int .i64 0, .int .i64 0, .slice (some ⟨w.heap.size + 1, 0, none⟩) 1 1] 27)) = w3 at *
  refine (a_enc _ _ HR.out).mono ?_
  rintro e w4 ⟨g, c, rfl, ho4, hb4⟩
  have HO4 := Lib.hid ho4
  have HB4 := Lib.hid hb4
  clear ho4 hb4
  generalize hq : (encR ar).length = q at *
  have HQ := Lib.hid hq
  clear hq
  go_wp2_with fail
  refine (a_dec _ _ _ _ HQ.out HO4.out.seenAt).mono ?_
  rintro e w5 ⟨ma, mc, ea, ec, rfl, hk5, hb5⟩
  have HK5 := Lib.hid hk5
  have hb6 := below_one w5 (.cells #[.int .i64 1, .int .i64 0, .slice ma 0 mc, .int .i64 0, .int .i64 0, .slice ea 1 ec] 27)
  have hg4 := HO4.out.lt
  have hb56 := hb5.trans (hb6.mono hb5.size)
  have hb46 := HB4.out.trans (hb56.mono HB4.out.size)
  have hx6 : Box (w5.alloc (.cells #[.int .i64 1, .int .i64 0, .slice ma 0 mc, .int .i64 0, .int .i64 0, .slice ea 1 ec] 27)) w5.heap.size #[.int .i64 1, .int .i64 0, .slice ma 0 mc, .int .i64 0, .int .i64 0, .slice ea 1 ec] := box_new _ _ _ _ rfl
  have hs5 := hb5.size
  have hs4 := HB4.out.size
  have HC56 : Hid (Chg [] w5 (w5.alloc (.cells #[.int .i64 1, .int .i64 0, .slice ma 0 mc, .int .i64 0, .int .i64 0, .slice ea 1 ec] 27))) := Chg.of_below hb6
  have HO6 := Lib.hid (HO4.out.chg (gs := []) (Chg.of_below hb56) (by simp))
  have HB6 := Lib.hid hb46
  have HX6 := Lib.hid hx6
  have hs6 := hb6.size
  clear hk5 hb5 hb6 hb56 hb46 hx6
  have HO7 := Lib.hid (HO6.out.chg (gs := []) (Chg.of_below (below_one _ (.cells #[.int .u8 0] 5))) (by simp))
  have HS7 := Lib.hid (seen_zeroB (w5.alloc (.cells #[.int .i64 1, .int .i64 0, .slice ma 0 mc, .int .i64 0, .int .i64 0, .slice ea 1 ec] 27)) (w5.heap.size + 1) (by simp))
  have hw7 : w3.heap.size ≤ ((w5.alloc (.cells #[.int .i64 1, .int .i64 0, .slice ma 0 mc, .int .i64 0, .int .i64 0, .slice ea 1 ec] 27)).alloc (.cells #[.int .u8 0] 5)).heap.size := by simp; omega
  go_wp2_with (at_builtin; refine wpList_appB rfl (.tmp 24) (.tmp 25) rfl w3.heap.size g c (encR ar) [0] (by rw [HQ.out]; rfl) HO7.out _ 1 rfl HS7.out (by have := HL.out; have := HQ.out; simp; omega) hw7 ?_; intro g8 c8 w8 ho8 chg8 hg8; have HL8 : Hid ((encR ar ++ [0]).length ≤ 2000001) := (by have := HL.out; have := HQ.out; show _ ≤ _; simp; omega); generalize encR ar ++ [0] = A8 at *; generalize hq8 : A8.length = q8 at *)
  have HQ8 := Lib.hid hq8
  have hbe8 := (HB6.out.alloc HB6.out.size (.cells #[.int .u8 0] 5))
  have HB8 := Lib.hid (chg8.below hbe8 hbe8.size (by simp; omega))
  have HX8 : Hid (Box w8 w5.heap.size #[.int .i64 1, .int .i64 0, .slice ma 0 mc, .int .i64 0, .int .i64 0, .slice ea 1 ec]) := fun i v hv => chg8.cell ((HX6.out.below (below_one _ _)) i v hv) (by simp; omega)
  have HK8 : Hid (RecAt w8 ma mc ea ec ar) := HK5.out [g] w8 (((HC56.out.trans (Chg.of_below (below_one _ _))).mono (by simp)).trans chg8) (by simp; omega)
  have HS8 := Lib.hid ho8.seenAt
  clear ho8 chg8 hg8 hbe8 hq8 HO7 HS7 HO6 HX6 HB6 HK5 HC56 hw7
  refine (decode_no _ _ _ A8 _ HQ8.out (by have := HL8.out; omega) HS8.out HNO.out).mono ?_
  rintro e w9 ⟨rfl, hb9⟩
  have hbz := below_one w9 (.cells #[.int .i64 0, .int .i64 0, .slice none 0 0, .int .i64 0, .int .i64 0, .slice none 0 0] 27)
  have hb89 := hb9.trans (hbz.mono hb9.size)
  have HB10 := Lib.hid (HB8.out.trans (hb89.mono HB8.out.size))
  have HK10 := Lib.hid (HK8.out.below hb89)
  have HR10 := Lib.hid (HR.out.below HB10.out)
  obtain ⟨x0, x1, x2, x3, x4, x5⟩ := box6 (HX8.out.below hb89)
  obtain ⟨y0, y1, y2, y3, y4, y5⟩ := box6 (HX.out.below HB10.out)
  obtain ⟨v0, v1, v2, v3, v4, v5, v6, v7⟩ := box8 (HY.out.below HB10.out)
  clear hb9 hbz hb89
  go_wp2_with fail
  refine (a_same _ _ _ _ _ _ HK10.out HR10.out).mono ?_
  rintro e w11 ⟨rfl, hb11⟩
  have HB11 := Lib.hid (HB10.out.trans (hb11.mono HB10.out.size))
  clear hb11 x0 x1 x2 x3 x4 x5 y0 y1 y2 y3 y4 y5 v0 v1 v2 v3 v4 v5 v6 v7
  obtain ⟨y0, y1, y2, y3, y4, y5⟩ := box6 (HX.out.below HB11.out)
  obtain ⟨v0, v1, v2, v3, v4, v5, v6, v7⟩ := box8 (HY.out.below HB11.out)
  go_wp2_with fail
  refine (a_sound _ _).mono ?_
  rintro e w12 ⟨rfl, hb12⟩
  have HB12 := Lib.hid (HB11.out.trans (hb12.mono HB11.out.size))
  clear hb12 y0 y1 y2 y3 y4 y5 v0 v1 v2 v3 v4 v5 v6 v7
  go_wp2_with fail
  refine (a_unsound _).mono ?_
  rintro e w13 ⟨rfl, hb13⟩
  have HB13 := Lib.hid (HB12.out.trans (hb13.mono HB12.out.size))
  clear hb13
  go_wp2_with fail
  refine (a_of _).mono ?_
  rintro e w14 ⟨rfl, hb14⟩
  have HB14 := Lib.hid (HB.out.trans ((HB13.out.trans (hb14.mono HB13.out.size)).mono HB.out.size))
  clear hb14
  go_wp2
  go_ret
  exact ⟨rfl, HB14.out⟩

end Go.Proofs.Ytjegidnlnjgbkaa
