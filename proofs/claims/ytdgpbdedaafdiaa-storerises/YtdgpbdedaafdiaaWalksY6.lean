/-
  The bytes of records, by the reference: Many, Record; SameRec, Same; bytes.Equal and the program's Same.
-/
import Derived.Test.YtdgpbdedaafdiaaWalksY5
namespace Go.Proofs.Ytdgpbdedaafdiaa
open Go.RowKit


/-- Short lists of short entries. -/
structure Small (r : Pr) : Prop where
  mem : r.mem.length ≤ 16
  ents : r.ents.length ≤ 4096
  each : ∀ e ∈ r.ents, e.key.length ≤ 16 ∧ e.frag.length ≤ 256

theorem small_of {r : Pr} (h : sndR r = true) : Small r := by
  obtain ⟨h1, h2, h3⟩ := sndR_lens r h
  exact ⟨h1, h2, fun e he => sndE_lens e (h3 e he)⟩

theorem small_0 : Small pr0 := ⟨by simp [pr0], by simp [pr0], by simp [pr0]⟩

theorem wf_0 : pr0.Wf := ⟨⟨by decide, by decide⟩, ⟨by decide, by decide⟩, by simp [pr0], ⟨by decide, by decide⟩, ⟨by decide, by decide⟩, by simp [pr0]⟩

theorem Small.encL {r : Pr} (h : Small r) : (Go.Proofs.Ytdgpbdedaafdiaa.encL encE r.ents).length ≤ 352 * r.ents.length :=
  encL_len encE 352 r.ents fun e he => by have := encE_len e; have := h.each e he; omega

theorem Small.bytes {r : Pr} (h : Small r) (hw : r.Wf) : Gf.Bytes (encR r) := by
  have h1 := h.mem
  have h2 := h.ents
  refine bytes_app' (bytes_app' (encs_bytes _ (hw.five (by omega))) (encs_bytes _ hw.mem)) (bytes_app' (encs_bytes _ ?_) (encL_bytes encE _ fun e he => ?_))
  · intro z hz
    simp at hz
    subst hz
    exact ⟨by omega, by omega⟩
  · have := h.each e he
    exact encE_bytes e (hw.ents e he) (by omega) (by omega)

set_option maxRecDepth 100000 in
set_option maxHeartbeats 1000000 in
theorem many_own (a : Option Addr) (cap l : Nat) (es : List Pe) (w : World) (hl : es.length = l) (h : EnsAt w a cap es) (hm : l ≤ 4096) (he : ∀ e ∈ es, e.key.length ≤ 16 ∧ e.frag.length ≤ 256) :
    Calls Try.prog 31 #[.slice a l cap] w (RetO w (encs [(l : Int)] ++ encL encE es)) := by
  have HE := Lib.hid h
  have HL := Lib.hid hl
  have HS := Lib.hid he
  have HEL : Hid ((encL encE es).length ≤ 1441792) := by
    have := encL_len encE 352 es fun e h' => by have := encE_len e; have := he e h'; omega
    show _ ≤ _
    omega
  have HI := Lib.hid (ints_lit w [(l : Int)] #[.int .i64 (l : Int)] 1 w.heap.size rfl rfl rfl (by intro z hz; simp at hz; subst hz; exact ⟨by omega, by omega⟩) (by unfold maxLen; omega))
  clear h hl he
  go_enter Try.func31, Try.ntmps31
  go_wp2_with fail
  refine (nums_own _ _ 1 _ _ rfl HI.out (by omega)).mono ?_
  rintro e w1 ⟨g1, c1, rfl, ho1, hb1⟩
  have HO1 : Hid (OwnB w1 w.heap.size g1 c1 (encs [(l : Int)] ++ encL encE (es.take 0))) := by
    show OwnB _ _ _ _ _
    rw [List.take_zero, encL_nil, List.append_nil]
    exact ho1.base (by simp)
  have HB1 := Lib.hid ((below_one w _).trans (hb1.mono (by simp)))
  have HL1 : Hid ((encs [(l : Int)]).length ≤ 10) := Nat.le_trans (encs_len _) (by simp)
  clear ho1 hb1 HI
  generalize encs [(l : Int)] = A at *
  generalize hq : A.length = q at *
  have HQ := Lib.hid hq
  clear hq
  go_wp2
  go_loopw [3, 4] (fun v i ws => ∃ (k g c : Nat), k ≤ l ∧ i = .int .i64 k ∧ v = .slice (some ⟨g, 0, none⟩) (A ++ encL encE (es.take k)).length c ∧ Hid (OwnB ws w.heap.size g c (A ++ encL encE (es.take k))) ∧ Hid (Below w.heap.size w ws)) (fun _ i _ => l - (intOf i).toNat)
  case atStart => exact ⟨0, g1, c1, Nat.zero_le _, rfl, by rw [List.take_zero, encL_nil, List.append_nil, HQ.out], HO1, HB1⟩
  case round =>
    obtain ⟨k, g, c, hk, rfl, rfl, HO, HB⟩ := hrel
    by_cases hlt : k < l
    · have j0 : (0 : Int) ≤ (k : Int) := by omega
      have j1 : (k : Int) < (l : Int) := by omega
      obtain ⟨b, off, loc, cc, rfl, hc⟩ := (HE.out.below HB.out).el k (by rw [HL.out]; exact hlt)
      have HWF := Lib.hid (HE.out.wf _ (getD_mem es k pe0 (by rw [HL.out]; exact hlt)))
      have HSL := Lib.hid (HS.out _ (getD_mem es k pe0 (by rw [HL.out]; exact hlt)))
      have HN : Hid (A ++ encL encE (es.take (k + 1)) = (A ++ encL encE (es.take k)) ++ encE (es.getD k pe0)) := by
        show _ = _
        rw [encL_snoc encE es pe0 k (by rw [HL.out]; exact hlt), List.append_assoc]
      have HLT : Hid ((A ++ encL encE (es.take k)).length ≤ 2000000) := by
        have h1 := encL_take encE es k
        have h2 := HEL.out
        have h3 := HQ.out
        have h4 := HL1.out
        show _ ≤ _
        rw [List.length_append]
        omega
      have c0 := hc.c0
      have c1 := hc.c1
      have c2 := hc.c2
      have c3 := hc.c3
      have c4 := hc.c4
      have c5 := hc.c5
      have c6 := hc.c6
      have c7 := hc.c7
      have HSF := Lib.hid hc.seen
      clear hc
      generalize es.getD k pe0 = p at *
      generalize hqa : (A ++ encL encE (es.take k)).length = qa at *
      have HQA := Lib.hid hqa
      clear hqa
      go_wp2_with fail
      refine (one_own p loc cc _ HWF.out (by have := HSL.out; omega) (by have := HSL.out; omega) HSF.out).mono ?_
      rintro e w7 ⟨g7, c7', rfl, ho7, hb7⟩
      have HB7 := Lib.hid (HB.out.trans (hb7.mono HB.out.size))
      have HO7 := Lib.hid (HO.out.chg (gs := []) (Chg.of_below hb7) (by simp))
      have HS7 := Lib.hid ho7.seenAt
      have hgl := HO.out.lt.1
      have HL7 : Hid ((encE p).length ≤ 352) := by have := encE_len p; have := HSL.out; show _ ≤ _; omega
      clear ho7 hb7
      generalize hq7 : (encE p).length = q7 at *
      have HQ7 := Lib.hid hq7
      clear hq7
      go_wp2_with (at_builtin; refine wpList_appB rfl (.tmp 15) (.tmp 20) rfl w.heap.size g c (A ++ encL encE (es.take k)) (encE p) (by rw [HQA.out]; rfl) HO7.out _ _ (by rw [HQ7.out]; rfl) HS7.out (by have := HLT.out; have := HL7.out; have := HQ7.out; have := HQA.out; omega) HB7.out.size ?_; intro g8 c8 w8 ho8 chg8 hg8; rw [← HN.out] at ho8 ⊢)
      have HB8 := Lib.hid (chg8.below HB7.out HB7.out.size (by simp; omega))
      have HO8 := Lib.hid ho8
      clear ho8 chg8 hg8
      go_roundw
      case rel => exact ⟨k + 1, g8, c8, by omega, by go_num, by rw [List.length_append], HO8, HB8⟩
      case measure => simp [intOf]; omega
    · obtain rfl : k = l := by omega
      have HT : Hid (es.take k = es) := List.take_of_length_le (by rw [HL.out]; omega)
      rw [HT.out] at HO ⊢
      have HF : Hid (RetO w (A ++ encL encE es) (.returned (.slice (some ⟨g, 0, none⟩) (A ++ encL encE es).length c)) wr) := ⟨g, c, rfl, HO.out, HB.out⟩
      generalize (A ++ encL encE es).length = q at *
      go_wp2
      go_ret
      exact HF.out



end Go.Proofs.Ytdgpbdedaafdiaa
