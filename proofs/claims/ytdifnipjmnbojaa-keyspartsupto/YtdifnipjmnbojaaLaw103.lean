/-
  The walk of the law KeysLive.
-/
import Derived.Test.YtdifnipjmnbojaaWalksL6
import Derived.Test.YtdifnipjmnbojaaAwake10
import Derived.Test.YtdifnipjmnbojaaArgK
namespace Go.Proofs.Ytdifnipjmnbojaa
open Go.RowKit






/-- Entries handed back: they read so. -/
theorem RetE.at_ {w w' : World} {es : List Pe} {e : Ending} (h : RetE w es e w') : ∃ (a : Option Addr) (c : Nat), e = .returned (.slice a es.length c) ∧ EnsAt w' a c es ∧ Below w.heap.size w w' := by
  obtain ⟨a, c, xs, e1, e2, h3, h4⟩ := h
  have h5 := h3.at_.2
  rw [e2] at h5
  exact ⟨a, c, e1, h5, h4⟩

def SmallK (es : List Pe) : Prop := ∀ e ∈ es, e.key.length ≤ 1048576 ∧ e.frag.length ≤ 1048576

theorem SmallK.big {es : List Pe} (h : SmallK es) : ∀ e ∈ es, e.key.length ≤ 1000000000 ∧ e.frag.length ≤ 1000000000 := fun e he => by
  have := h e he
  omega

theorem liveU_small {es : List Pe} (h : SmallK es) (last : Int) : SmallK (liveU es last es.length) := fun e he => by
  unfold liveU at he
  obtain ⟨i, hi, rfl⟩ := List.mem_map.mp he
  have hi' := (placesU_mem es last es.length i).1 hi
  unfold liveAt
  split
  · exact h _ (getD_mem es i pe0 hi'.1)
  · exact ⟨Nat.zero_le _, Nat.zero_le _⟩

theorem risU_small {es : List Pe} (h : SmallK es) (k : Nat) (hk : k ≤ es.length) : SmallK (risU es k) := fun e he => h e (risU_mem es k hk e he)

set_option maxRecDepth 100000 in
set_option maxHeartbeats 4000000 in
theorem keysLive_walk (a0 : Option Addr) (len0 cap0 : Nat) (m0 : List Pe) (a1 : Int) (w : World) (w0 : m0.length = len0 ∧ EnsAt w a0 cap0 m0 ∧ SmallK m0) :
    Calls Try.prog 5 #[.slice a0 len0 cap0, .int .i64 a1] w fun e w' => e = .returned (.bool true) ∧ Below w.heap.size w w' := by
  obtain ⟨hl, he, hs⟩ := w0
  have HL := Lib.hid hl
  have HE := Lib.hid he
  have HR := Lib.hid (risU_ris m0 len0)
  have HN : Hid ((risU m0 len0).length ≤ 60) := risU_len _ _
  have HS := Lib.hid (risU_small hs len0 (by omega))
  clear hl he hs
  go_enter Try.func5, Try.ntmps5
  go_wp2_with fail
  refine (rising_any a0 cap0 len0 m0 w HL.out HE.out).mono ?_
  intro e w1 hr
  obtain ⟨b, c, rfl, ho1, hb1⟩ := hr.at_
  have HO1 := Lib.hid ho1
  have HB1 := Lib.hid hb1
  clear hr ho1 hb1 HL HE
  generalize risU m0 len0 = es at *
  obtain ⟨l, hl⟩ : ∃ l, es.length = l := ⟨_, rfl⟩
  rw [hl] at HN ⊢
  have HL := Lib.hid hl
  have hl60 := HN.out
  have HLS : Hid (SmallK (liveU es a1 l)) := by rw [← hl]; exact liveU_small HS.out a1
  have HLN : Hid ((liveU es a1 l).length ≤ 60) := by have := live_len es a1 l; have := HN.out; show _ ≤ _; omega
  clear hl
  go_wp2_with fail
  refine (awake10 w1).mono ?_
  rintro e w2 ⟨rfl, hb2⟩
  have HO2 := Lib.hid (HO1.out.below hb2)
  have HB2 := Lib.hid (HB1.out.trans (hb2.mono HB1.out.size))
  clear hb2 HO1 HB1
  go_wp2_with fail
  refine (live_any b c l es a1 w2 HL.out HO2.out HS.out.big (by omega)).mono ?_
  intro e w3 hr
  obtain ⟨b3, c3, rfl, ho3, hb3⟩ := hr.at_
  have HO3 := Lib.hid (HO2.out.below hb3)
  have HP3 := Lib.hid ho3
  have HB3 := Lib.hid (HB2.out.trans (hb3.mono HB2.out.size))
  clear hr ho3 hb3 HO2 HB2
  go_wp2_with fail
  refine (refLive_any b c l es a1 w3 HL.out HO3.out (by omega) HR.out).mono ?_
  intro e w4 hr
  obtain ⟨b4, c4, rfl, ho4, hb4⟩ := hr.at_
  have HP4 := Lib.hid (HP3.out.below hb4)
  have HQ4 := Lib.hid ho4
  have HB4 := Lib.hid (HB3.out.trans (hb4.mono HB3.out.size))
  clear hr ho4 hb4 HO3 HP3 HB3
  generalize liveU es a1 l = ls at *
  obtain ⟨n, hn⟩ : ∃ n, ls.length = n := ⟨_, rfl⟩
  rw [hn] at HLN ⊢
  have HLL := Lib.hid hn
  clear hn
  go_wp2_with fail
  refine (sameAll_any b3 b4 c3 c4 n ls w4 HLL.out HLN.out HP4.out HQ4.out HLS.out).mono ?_
  rintro e w5 ⟨rfl, hb5⟩
  have HB5 := Lib.hid (HB4.out.trans (hb5.mono HB4.out.size))
  clear hb5
  go_wp2
  go_ret
  exact ⟨rfl, HB5.out⟩

end Go.Proofs.Ytdifnipjmnbojaa
