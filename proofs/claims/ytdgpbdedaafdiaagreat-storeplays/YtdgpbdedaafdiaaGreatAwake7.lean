/-
  The laws' fixed fact, of layer 7.
-/
import Derived.Test.YtdgpbdedaafdiaaGreatWalksZ1
import Derived.Test.YtdgpbdedaafdiaaGreatWalksY4
import Derived.Test.YtdgpbdedaafdiaaGreatWalksU1
import Derived.Lib.SlBytesConst
namespace Go.Proofs.YtdgpbdedaafdiaaGreat
open Go.RowKit

def ae : Pe := ⟨1, 0, 1, 1, [107], 1, 2147483648, [120]⟩
def ar : Pr := ⟨1, 0, [], 0, 0, [ae]⟩

theorem ar_snd : sndR ar = true := by decide
theorem ae_snd : sndE ae = true := by decide
theorem ae_wf : ae.Wf := ⟨⟨by decide, by decide⟩, ⟨by decide, by decide⟩, ⟨by decide, by decide⟩, ⟨by decide, by decide⟩, ⟨by decide, by decide⟩, by decide, by intro c hc; simp [ae] at hc; omega, by intro c hc; simp [ae] at hc; omega⟩
theorem ar_wf : ar.Wf := ⟨⟨by decide, by decide⟩, ⟨by decide, by decide⟩, by simp [ar], ⟨by decide, by decide⟩, ⟨by decide, by decide⟩, by intro e he; simp [ar] at he; subst he; exact ae_wf⟩

theorem seen_byteB (w : World) (c B : Nat) (hc : c < 256) (hB : w.heap.size = B) : SeenAt (w.alloc (.cells #[.int .u8 (c : Int)] 5)) (some ⟨B, 0, none⟩) 1 [c] := by
  subst hB
  exact seen_byte w c hc

theorem seen_zeroB (w : World) (B : Nat) (hB : w.heap.size = B) : SeenAt (w.alloc (.cells #[.int .u8 0] 5)) (some ⟨B, 0, none⟩) 1 [0] := seen_byteB w 0 B (by omega) hB

theorem a_enc (a : Option Addr) (x : World) (h : RecAt x none 0 a 1 ar) :
    Calls Tryz.prog 81 #[.agg #[.int .i64 1, .int .i64 0, .slice none 0 0, .int .i64 0, .int .i64 0, .slice a 1 1]] x (RetE x (encR ar)) :=
  encode_yes none a 0 1 0 1 ar x h rfl rfl ar_snd

theorem a_dec (a : Option Addr) (c l : Nat) (x : World) (hl : (encR ar).length = l) (h : SeenAt x a c (encR ar)) :
    Calls Tryz.prog 40 #[.slice a l c] x fun e w' => ∃ ma mc ea ec, e = .returned (.tuple #[.agg #[.int .i64 1, .int .i64 0, .slice ma 0 mc, .int .i64 0, .int .i64 0, .slice ea 1 ec], .int .i64 0]) ∧ (∀ gs w2, Chg gs w' w2 → (∀ g ∈ gs, g < x.heap.size) → RecAt w2 ma mc ea ec ar) ∧ Below x.heap.size x w' :=
  (decode_yes a c l (encR ar) x hl (by have := encR_len ar ar_snd; omega) h (dec_yes ar ar_wf ar_snd).1).mono fun e w' h' => by
    rw [(dec_yes ar ar_wf ar_snd).2] at h'
    exact h'

theorem a_same (ma ea a : Option Addr) (mc ec : Nat) (x : World) (h : RecAt x ma mc ea ec ar) (h' : RecAt x none 0 a 1 ar) :
    Calls Tryz.prog 31 #[.agg #[.int .i64 1, .int .i64 0, .slice ma 0 mc, .int .i64 0, .int .i64 0, .slice ea 1 ec], .agg #[.int .i64 1, .int .i64 0, .slice none 0 0, .int .i64 0, .int .i64 0, .slice a 1 1]] x fun e w' => e = .returned (.bool true) ∧ Below x.heap.size x w' :=
  (sameRec_any ma ea mc ec 0 1 ar none a 0 1 0 1 ar x h rfl rfl (small_of ar_snd) h' rfl rfl (small_of ar_snd)).mono fun e w' hx => by
    rw [show decide (encR ar = encR ar) = true by simp] at hx
    exact hx

theorem a_sound (b : Nat) (x : World) :
    Calls Tryz.prog 80 #[.agg #[.int .i64 1, .int .i64 0, .int .i64 1, .int .i64 1, .string ⟨#[107]⟩, .int .i64 1, .int .u32 2147483648, .slice (some ⟨b, 0, none⟩) 1 1]] x fun e w' => e = .returned (.bool true) ∧ Below x.heap.size x w' :=
  (sound_raw 1 0 1 1 1 2147483648 ⟨#[107]⟩ (some ⟨b, 0, none⟩) 1 1 x).mono fun e w' h => by
    rw [show sndRaw 1 0 1 1 ⟨#[107]⟩ 1 1 = true by decide] at h
    exact h

theorem a_unsound (x : World) :
    Calls Tryz.prog 80 #[.agg #[.int .i64 (-1), .int .i64 0, .int .i64 0, .int .i64 0, .string ⟨#[]⟩, .int .i64 0, .int .u32 0, .slice none 0 0]] x fun e w' => e = .returned (.bool false) ∧ Below x.heap.size x w' :=
  (sound_raw (-1) 0 0 0 0 0 ⟨#[]⟩ none 0 0 x).mono fun e w' h => by
    rw [show sndRaw (-1) 0 0 0 ⟨#[]⟩ 0 0 = false by decide] at h
    exact h

theorem a_rec (w : World) : RecAt (((w.alloc (.cells #[.int .u8 120] 5 (1, 2))).alloc (.cells #[.int .i64 1, .int .i64 0, .int .i64 1, .int .i64 1, .string ⟨#[107]⟩, .int .i64 1, .int .u32 2147483648, .slice (some ⟨w.heap.size, 0, none⟩) 1 1] 41)).alloc (.cells #[.int .i64 1, .int .i64 0, .slice none 0 0, .int .i64 0, .int .i64 0, .slice (some ⟨w.heap.size + 1, 0, none⟩) 1 1] 35)) none 0 (some ⟨w.heap.size + 1, 0, none⟩) 1 ar := by
  refine ⟨IntsAt.nil (Nat.zero_le _), ⟨by simp [ar], by unfold maxLen; omega, fun i hi => ?_, ar_wf.ents⟩, ar_wf⟩
  obtain rfl : i = 0 := by simp [ar] at hi; omega
  have hs : SeenAt (((w.alloc (.cells #[.int .u8 120] 5 (1, 2))).alloc (.cells #[.int .i64 1, .int .i64 0, .int .i64 1, .int .i64 1, .string ⟨#[107]⟩, .int .i64 1, .int .u32 2147483648, .slice (some ⟨w.heap.size, 0, none⟩) 1 1] 41)).alloc (.cells #[.int .i64 1, .int .i64 0, .slice none 0 0, .int .i64 0, .int .i64 0, .slice (some ⟨w.heap.size + 1, 0, none⟩) 1 1] 35)) (some ⟨w.heap.size, 0, none⟩) 1 [120] :=
    ((seen_lit w [120] #[.int .u8 120] (1, 2) rfl (by intro c hc; simp at hc; omega) (by unfold maxLen; simp)).below (below_one _ _)).below (below_one _ _)
  have hb : Box ((w.alloc (.cells #[.int .u8 120] 5 (1, 2))).alloc (.cells #[.int .i64 1, .int .i64 0, .int .i64 1, .int .i64 1, .string ⟨#[107]⟩, .int .i64 1, .int .u32 2147483648, .slice (some ⟨w.heap.size, 0, none⟩) 1 1] 41)) (w.heap.size + 1) #[.int .i64 1, .int .i64 0, .int .i64 1, .int .i64 1, .string ⟨#[107]⟩, .int .i64 1, .int .u32 2147483648, .slice (some ⟨w.heap.size, 0, none⟩) 1 1] := box_new _ _ _ _ (by simp)
  obtain ⟨x0, x1, x2, x3, x4, x5, x6, x7⟩ := box8 (hb.below (below_one _ (.cells #[.int .i64 1, .int .i64 0, .slice none 0 0, .int .i64 0, .int .i64 0, .slice (some ⟨w.heap.size + 1, 0, none⟩) 1 1] 35)))
  exact ⟨w.heap.size + 1, 0, some ⟨w.heap.size, 0, none⟩, 1, rfl, x0, x1, x2, x3, x4, x5, x6, x7, hs⟩

end Go.Proofs.YtdgpbdedaafdiaaGreat
