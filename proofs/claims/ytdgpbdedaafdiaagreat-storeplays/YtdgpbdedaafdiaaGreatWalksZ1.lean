/-
  Decode; bytes.Equal and the program's Same; the reference's Same.
-/
import Derived.Test.YtdgpbdedaafdiaaGreatWalksY7
import Derived.Test.YtdgpbdedaafdiaaGreatWalksY6
namespace Go.Proofs.YtdgpbdedaafdiaaGreat
open Go.RowKit

/-- Decode's answer where the bytes are a sound record's. -/
def RetD (w : World) (r : Pr) (e : Ending) (w' : World) : Prop :=
  ∃ ma mc ea ec, e = .returned (.tuple #[.agg #[.int .i64 r.kind, .int .i64 r.epoch, .slice ma r.mem.length mc, .int .i64 r.pos, .int .i64 r.last, .slice ea r.ents.length ec], .int .i64 0]) ∧ (∀ gs w2, Chg gs w' w2 → (∀ g ∈ gs, g < w.heap.size) → RecAt w2 ma mc ea ec r) ∧ Below w.heap.size w w'

/-- The same, the parts in new blocks. -/
def RetDO (w : World) (r : Pr) (e : Ending) (w' : World) : Prop :=
  ∃ ma mc ea ec, e = .returned (.tuple #[.agg #[.int .i64 r.kind, .int .i64 r.epoch, .slice ma r.mem.length mc, .int .i64 r.pos, .int .i64 r.last, .slice ea r.ents.length ec], .int .i64 0]) ∧ RecO w' w.heap.size w'.heap.size ma mc ea ec r ∧ Below w.heap.size w w'

theorem Bx.set {w : World} {B : Nat} {t : TypeId} {C C' : Array Value} (h : Bx w B t C) (k : Nat) (v : Value) (hC : C.setIfInBounds k v = C') : Bx (w.setCell ⟨B, k, none⟩ v) B t C' := by
  subst hC
  exact heap_setCell_same w B k C t v h

theorem Bx.put6 {w : World} {B : Nat} {t : TypeId} {y0 y1 y2 y3 y4 y5 : Value} (h : Bx w B t #[y0, y1, y2, y3, y4, y5]) (v0 v1 v2 v3 v4 v5 : Value) :
    Bx ((((((w.setCell ⟨B, 0, none⟩ v0).setCell ⟨B, 1, none⟩ v1).setCell ⟨B, 2, none⟩ v2).setCell ⟨B, 3, none⟩ v3).setCell ⟨B, 4, none⟩ v4).setCell ⟨B, 5, none⟩ v5) B t #[v0, v1, v2, v3, v4, v5] ∧ Chg [B] w ((((((w.setCell ⟨B, 0, none⟩ v0).setCell ⟨B, 1, none⟩ v1).setCell ⟨B, 2, none⟩ v2).setCell ⟨B, 3, none⟩ v3).setCell ⟨B, 4, none⟩ v4).setCell ⟨B, 5, none⟩ v5) := by
  have h0 := h.set (C' := #[v0, y1, y2, y3, y4, y5]) 0 v0 (by simp)
  have h1 := h0.set (C' := #[v0, v1, y2, y3, y4, y5]) 1 v1 (by simp)
  have h2 := h1.set (C' := #[v0, v1, v2, y3, y4, y5]) 2 v2 (by simp)
  have h3 := h2.set (C' := #[v0, v1, v2, v3, y4, y5]) 3 v3 (by simp)
  have h4 := h3.set (C' := #[v0, v1, v2, v3, v4, y5]) 4 v4 (by simp)
  have h5 := h4.set (C' := #[v0, v1, v2, v3, v4, v5]) 5 v5 (by simp)
  exact ⟨h5, (((((chg_set w _ 0 v0).trans (chg_set _ _ 1 v1)).trans (chg_set _ _ 2 v2)).trans (chg_set _ _ 3 v3)).trans (chg_set _ _ 4 v4)).trans (chg_set _ _ 5 v5)⟩

theorem fin_finB (s : Pk.St) : Pk.fin s = finB s := rfl



set_option maxRecDepth 100000 in
set_option maxHeartbeats 1000000 in
theorem decode_no (a : Option Addr) (cap l : Nat) (ps : List Nat) (w : World) (hl : ps.length = l) (hm : l ≤ 100000000) (h : SeenAt w a cap ps) (hno : decB ps = false) :
    Calls Tryz.prog 40 #[.slice a l cap] w fun e w' => e = .returned (.tuple #[.agg #[.int .i64 0, .int .i64 0, .slice none 0 0, .int .i64 0, .int .i64 0, .slice none 0 0], .int .i64 2]) ∧ Below w.heap.size w w' := by
  have HB := Lib.hid h.byte
  have HS := Lib.hid (h.below (below_one w (.cells #[.int .i64 0, .int .i64 0, .slice none 0 0, .int .i64 0, .int .i64 0, .slice none 0 0] 35)))
  have HL := Lib.hid hl
  have HN : Hid ((finB (rdR (ps, false)).2 && sndR (rdR (ps, false)).1) = false) := hno
  have HZ : Hid (Bx (w.alloc (.cells #[.int .i64 0, .int .i64 0, .slice none 0 0, .int .i64 0, .int .i64 0, .slice none 0 0] 35)) w.heap.size 35 #[.int .i64 0, .int .i64 0, .slice none 0 0, .int .i64 0, .int .i64 0, .slice none 0 0]) := by
    show (w.heap.push _)[w.heap.size]? = _
    simp
  have HB0 : Hid (Below w.heap.size w (w.alloc (.cells #[.int .i64 0, .int .i64 0, .slice none 0 0, .int .i64 0, .int .i64 0, .slice none 0 0] 35))) := below_one w _
  have hz : w.heap.size < (w.alloc (.cells #[.int .i64 0, .int .i64 0, .slice none 0 0, .int .i64 0, .int .i64 0, .slice none 0 0] 35)).heap.size := by simp
  clear h hl hno
  go_enter Tryz.func40, Tryz.ntmps40
  go_wp2_with fail
  generalize w.alloc (.cells #[.int .i64 0, .int .i64 0, .slice none 0 0, .int .i64 0, .int .i64 0, .slice none 0 0] 35) = w0 at *
  refine (newH _ _ _ ps _ HL.out (by omega) HS.out).mono ?_
  rintro e w1 ⟨R, H, rfl, hR, hr1, hb1⟩
  have HR1 := Lib.hid hr1
  have HB1 := Lib.hid (HB0.out.trans (hb1.mono HB0.out.size))
  have HZ1 := Lib.hid (HZ.out.chg (gs := []) (Chg.of_below hb1) (by simp))
  clear hr1 hb1
  go_wp2_with fail
  refine (readRecord_any R (ps, false) _ HR1.out HB.out (by have := HL.out; show ps.length ≤ _; omega)).mono ?_
  rintro e w2 ⟨ma, mc, ea, ec, rfl, hk2, hr2, hb2⟩
  have HK2 := Lib.hid hk2.at_
  have HR2 := Lib.hid hr2
  have HB2 := Lib.hid (hb2.below HB1.out HB1.out.size (by simp; omega))
  have HZ2 := Lib.hid (HZ1.out.chg hb2 (by simp; omega))
  clear hk2 hr2 hb2 HR1 HZ1 HB1
  generalize (rdR (ps, false)).1 = r at *
  generalize (rdR (ps, false)).2 = s2 at *
  obtain ⟨lm, hlm⟩ : ∃ q, r.mem.length = q := ⟨_, rfl⟩
  obtain ⟨le, hle⟩ : ∃ q, r.ents.length = q := ⟨_, rfl⟩
  have HLM := Lib.hid hlm
  have HLE := Lib.hid hle
  rw [hlm, hle]
  clear hlm hle
  have hb3 := below_one w2 (.cells #[.int .i64 r.kind, .int .i64 r.epoch, .slice ma lm mc, .int .i64 r.pos, .int .i64 r.last, .slice ea le ec] 35)
  have HR3 := Lib.hid (HR2.out.below hb3)
  have HK3 := Lib.hid (HK2.out.below hb3)
  have HB3 := Lib.hid (HB2.out.trans (hb3.mono HB2.out.size))
  have HZ3 := Lib.hid (HZ2.out.chg (gs := []) (Chg.of_below hb3) (by simp))
  clear hb3
  go_wp2_with fail
  refine (rEndH R s2 _ HR3.out).mono ?_
  rintro e w' ⟨rfl, rfl⟩
  rw [fin_finB]
  cases hf : finB s2
  · have HBX := HB3
    generalize (w2.alloc (.cells #[.int .i64 r.kind, .int .i64 r.epoch, .slice ma lm mc, .int .i64 r.pos, .int .i64 r.last, .slice ea le ec] 35)) = w3 at *
    have HZX := HZ3
    have z0 := HZX.out.cell 0 (.int .i64 0) rfl
    have z1 := HZX.out.cell 1 (.int .i64 0) rfl
    have z2 := HZX.out.cell 2 (.slice none 0 0) rfl
    have z3 := HZX.out.cell 3 (.int .i64 0) rfl
    have z4 := HZX.out.cell 4 (.int .i64 0) rfl
    have z5 := HZX.out.cell 5 (.slice none 0 0) rfl
    have f0 := HZX.out.free 0
    have f1 := HZX.out.free 1
    have f2 := HZX.out.free 2
    have f3 := HZX.out.free 3
    have f4 := HZX.out.free 4
    have f5 := HZX.out.free 5
    have HP := Lib.hid (HZX.out.put6 (.int .i64 0) (.int .i64 0) (.slice none 0 0) (.int .i64 0) (.int .i64 0) (.slice none 0 0))
    go_wp2_with fail
    generalize ((((((w3.setCell ⟨w.heap.size, 0, none⟩ (.int .i64 0)).setCell ⟨w.heap.size, 1, none⟩ (.int .i64 0)).setCell ⟨w.heap.size, 2, none⟩ (.slice none 0 0)).setCell ⟨w.heap.size, 3, none⟩ (.int .i64 0)).setCell ⟨w.heap.size, 4, none⟩ (.int .i64 0)).setCell ⟨w.heap.size, 5, none⟩ (.slice none 0 0)) = wf at *
    have q0 := HP.out.1.cell 0 (.int .i64 0) rfl
    have q1 := HP.out.1.cell 1 (.int .i64 0) rfl
    have q2 := HP.out.1.cell 2 (.slice none 0 0) rfl
    have q3 := HP.out.1.cell 3 (.int .i64 0) rfl
    have q4 := HP.out.1.cell 4 (.int .i64 0) rfl
    have q5 := HP.out.1.cell 5 (.slice none 0 0) rfl
    refine bodyPost_ret (v := .tuple #[.agg #[.int .i64 0, .int .i64 0, .slice none 0 0, .int .i64 0, .int .i64 0, .slice none 0 0], .int .i64 2]) (by simp [results, Tryz.results40, go_sem, q0, q1, q2, q3, q4, q5]) rfl ?_
    exact ⟨rfl, HP.out.2.below HBX.out HBX.out.size (by simp)⟩
  · have HS2 : Hid (sndR r = false) := by have h5 := HN.out; rw [hf] at h5; show _ = _; simpa using h5
    go_wp2_with fail
    refine (soundRecord_any _ _ _ _ _ _ r _ HK3.out HLM.out HLE.out).mono ?_
    rintro e w4 ⟨rfl, hb4⟩
    rw [HS2.out]
    have HBX := Lib.hid (HB3.out.trans (hb4.mono HB3.out.size))
    have HZ4 := Lib.hid (HZ3.out.chg (gs := []) (Chg.of_below hb4) (by simp))
    clear hb4
    have HZX := HZ4
    have z0 := HZX.out.cell 0 (.int .i64 0) rfl
    have z1 := HZX.out.cell 1 (.int .i64 0) rfl
    have z2 := HZX.out.cell 2 (.slice none 0 0) rfl
    have z3 := HZX.out.cell 3 (.int .i64 0) rfl
    have z4 := HZX.out.cell 4 (.int .i64 0) rfl
    have z5 := HZX.out.cell 5 (.slice none 0 0) rfl
    have f0 := HZX.out.free 0
    have f1 := HZX.out.free 1
    have f2 := HZX.out.free 2
    have f3 := HZX.out.free 3
    have f4 := HZX.out.free 4
    have f5 := HZX.out.free 5
    have HP := Lib.hid (HZX.out.put6 (.int .i64 0) (.int .i64 0) (.slice none 0 0) (.int .i64 0) (.int .i64 0) (.slice none 0 0))
    go_wp2_with fail
    generalize ((((((w4.setCell ⟨w.heap.size, 0, none⟩ (.int .i64 0)).setCell ⟨w.heap.size, 1, none⟩ (.int .i64 0)).setCell ⟨w.heap.size, 2, none⟩ (.slice none 0 0)).setCell ⟨w.heap.size, 3, none⟩ (.int .i64 0)).setCell ⟨w.heap.size, 4, none⟩ (.int .i64 0)).setCell ⟨w.heap.size, 5, none⟩ (.slice none 0 0)) = wf at *
    have q0 := HP.out.1.cell 0 (.int .i64 0) rfl
    have q1 := HP.out.1.cell 1 (.int .i64 0) rfl
    have q2 := HP.out.1.cell 2 (.slice none 0 0) rfl
    have q3 := HP.out.1.cell 3 (.int .i64 0) rfl
    have q4 := HP.out.1.cell 4 (.int .i64 0) rfl
    have q5 := HP.out.1.cell 5 (.slice none 0 0) rfl
    refine bodyPost_ret (v := .tuple #[.agg #[.int .i64 0, .int .i64 0, .slice none 0 0, .int .i64 0, .int .i64 0, .slice none 0 0], .int .i64 2]) (by simp [results, Tryz.results40, go_sem, q0, q1, q2, q3, q4, q5]) rfl ?_
    exact ⟨rfl, HP.out.2.below HBX.out HBX.out.size (by simp)⟩

set_option maxRecDepth 100000 in
set_option maxHeartbeats 1000000 in
theorem decode_own (a : Option Addr) (cap l : Nat) (ps : List Nat) (w : World) (hl : ps.length = l) (hm : l ≤ 100000000) (h : SeenAt w a cap ps) (hyes : decB ps = true) :
    Calls Tryz.prog 40 #[.slice a l cap] w (RetDO w (decR ps)) := by
  have HB := Lib.hid h.byte
  have HS := Lib.hid (h.below (below_one w (.cells #[.int .i64 0, .int .i64 0, .slice none 0 0, .int .i64 0, .int .i64 0, .slice none 0 0] 35)))
  have HL := Lib.hid hl
  have HN : Hid (finB (rdR (ps, false)).2 = true ∧ sndR (rdR (ps, false)).1 = true) := by have h' : (finB (rdR (ps, false)).2 && sndR (rdR (ps, false)).1) = true := hyes; show _ ∧ _; simpa using h'
  have HZ : Hid (Bx (w.alloc (.cells #[.int .i64 0, .int .i64 0, .slice none 0 0, .int .i64 0, .int .i64 0, .slice none 0 0] 35)) w.heap.size 35 #[.int .i64 0, .int .i64 0, .slice none 0 0, .int .i64 0, .int .i64 0, .slice none 0 0]) := by
    show (w.heap.push _)[w.heap.size]? = _
    simp
  have HB0 : Hid (Below w.heap.size w (w.alloc (.cells #[.int .i64 0, .int .i64 0, .slice none 0 0, .int .i64 0, .int .i64 0, .slice none 0 0] 35))) := below_one w _
  have hz : w.heap.size < (w.alloc (.cells #[.int .i64 0, .int .i64 0, .slice none 0 0, .int .i64 0, .int .i64 0, .slice none 0 0] 35)).heap.size := by simp
  have HDR : Hid ((rdR (ps, false)).1 = decR ps) := rfl
  clear h hl hyes
  go_enter Tryz.func40, Tryz.ntmps40
  go_wp2_with fail
  generalize w.alloc (.cells #[.int .i64 0, .int .i64 0, .slice none 0 0, .int .i64 0, .int .i64 0, .slice none 0 0] 35) = w0 at *
  refine (newH _ _ _ ps _ HL.out (by omega) HS.out).mono ?_
  rintro e w1 ⟨R, H, rfl, hR, hr1, hb1⟩
  have HR1 := Lib.hid hr1
  have hz1 := hb1.size
  have HB1 := Lib.hid (HB0.out.trans (hb1.mono HB0.out.size))
  have HZ1 := Lib.hid (HZ.out.chg (gs := []) (Chg.of_below hb1) (by simp))
  clear hr1 hb1
  go_wp2_with fail
  refine (readRecord_any R (ps, false) _ HR1.out HB.out (by have := HL.out; show ps.length ≤ _; omega)).mono ?_
  rintro e w2 ⟨ma, mc, ea, ec, rfl, hk2, hr2, hb2⟩
  have HKK := Lib.hid hk2
  have hw1 : w.heap.size < w1.heap.size := Nat.lt_of_lt_of_le hz hz1
  have HK2 := Lib.hid hk2.at_
  have HR2 := Lib.hid hr2
  have HB2 := Lib.hid (hb2.below HB1.out HB1.out.size (by simp; omega))
  have HZ2 := Lib.hid (HZ1.out.chg hb2 (by simp; omega))
  clear hk2 hr2 hb2 HR1 HZ1 HB1
  generalize (rdR (ps, false)).1 = r at *
  generalize (rdR (ps, false)).2 = s2 at *
  obtain ⟨lm, hlm⟩ : ∃ q, r.mem.length = q := ⟨_, rfl⟩
  obtain ⟨le, hle⟩ : ∃ q, r.ents.length = q := ⟨_, rfl⟩
  have HLM := Lib.hid hlm
  have HLE := Lib.hid hle
  rw [hlm, hle]
  clear hlm hle
  have hb3 := below_one w2 (.cells #[.int .i64 r.kind, .int .i64 r.epoch, .slice ma lm mc, .int .i64 r.pos, .int .i64 r.last, .slice ea le ec] 35)
  have HR3 := Lib.hid (HR2.out.below hb3)
  have HK3 := Lib.hid (HK2.out.below hb3)
  have HB3 := Lib.hid (HB2.out.trans (hb3.mono HB2.out.size))
  have HZ3 := Lib.hid (HZ2.out.chg (gs := []) (Chg.of_below hb3) (by simp))
  clear hb3
  go_wp2_with fail
  refine (rEndH R s2 _ HR3.out).mono ?_
  rintro e w' ⟨rfl, rfl⟩
  rw [fin_finB]
  rw [HN.out.1]
  go_wp2_with fail
  refine (soundRecord_any _ _ _ _ _ _ r _ HK3.out HLM.out HLE.out).mono ?_
  rintro e w4 ⟨rfl, hb4⟩
  rw [HN.out.2]
  have HBX := Lib.hid (HB3.out.trans (hb4.mono HB3.out.size))
  have HZX := Lib.hid (HZ3.out.chg (gs := []) (Chg.of_below hb4) (by simp))
  have HC4 : Hid (Below w2.heap.size w2 w4) := (below_one w2 _).trans (hb4.mono (by simp))
  have r0 := box_later hb4 0 (.int .i64 r.kind) rfl
  have r1 := box_later hb4 1 (.int .i64 r.epoch) rfl
  have r2 := box_later hb4 2 (.slice ma lm mc) rfl
  have r3 := box_later hb4 3 (.int .i64 r.pos) rfl
  have r4 := box_later hb4 4 (.int .i64 r.last) rfl
  have r5 := box_later hb4 5 (.slice ea le ec) rfl
  clear hb4
  have z0 := HZX.out.cell 0 (.int .i64 0) rfl
  have z1 := HZX.out.cell 1 (.int .i64 0) rfl
  have z2 := HZX.out.cell 2 (.slice none 0 0) rfl
  have z3 := HZX.out.cell 3 (.int .i64 0) rfl
  have z4 := HZX.out.cell 4 (.int .i64 0) rfl
  have z5 := HZX.out.cell 5 (.slice none 0 0) rfl
  have f0 := HZX.out.free 0
  have f1 := HZX.out.free 1
  have f2 := HZX.out.free 2
  have f3 := HZX.out.free 3
  have f4 := HZX.out.free 4
  have f5 := HZX.out.free 5
  have HP := Lib.hid (HZX.out.put6 (.int .i64 r.kind) (.int .i64 r.epoch) (.slice ma lm mc) (.int .i64 r.pos) (.int .i64 r.last) (.slice ea le ec))
  go_wp2_with fail
  generalize ((((((w4.setCell ⟨w.heap.size, 0, none⟩ (.int .i64 r.kind)).setCell ⟨w.heap.size, 1, none⟩ (.int .i64 r.epoch)).setCell ⟨w.heap.size, 2, none⟩ (.slice ma lm mc)).setCell ⟨w.heap.size, 3, none⟩ (.int .i64 r.pos)).setCell ⟨w.heap.size, 4, none⟩ (.int .i64 r.last)).setCell ⟨w.heap.size, 5, none⟩ (.slice ea le ec)) = wf at *
  have q0 := HP.out.1.cell 0 (.int .i64 r.kind) rfl
  have q1 := HP.out.1.cell 1 (.int .i64 r.epoch) rfl
  have q2 := HP.out.1.cell 2 (.slice ma lm mc) rfl
  have q3 := HP.out.1.cell 3 (.int .i64 r.pos) rfl
  have q4 := HP.out.1.cell 4 (.int .i64 r.last) rfl
  have q5 := HP.out.1.cell 5 (.slice ea le ec) rfl
  refine bodyPost_ret (v := .tuple #[.agg #[.int .i64 r.kind, .int .i64 r.epoch, .slice ma lm mc, .int .i64 r.pos, .int .i64 r.last, .slice ea le ec], .int .i64 0]) (by simp [results, Tryz.results40, go_sem, q0, q1, q2, q3, q4, q5]) rfl ?_
  have HFR : RecO wf w.heap.size wf.heap.size ma mc ea ec r := (HKK.out.chg ((Chg.of_below HC4.out).trans HP.out.2) (fun g hm => by simp at hm; omega)).wide (Nat.le_of_lt hw1) (Nat.le_trans HC4.out.size HP.out.2.size)
  rw [← HDR.out]
  exact ⟨ma, mc, ea, ec, by rw [HLM.out, HLE.out], HFR, HP.out.2.below HBX.out HBX.out.size (by simp)⟩

theorem decode_yes (a : Option Addr) (cap l : Nat) (ps : List Nat) (w : World) (hl : ps.length = l) (hm : l ≤ 100000000) (h : SeenAt w a cap ps) (hyes : decB ps = true) :
    Calls Tryz.prog 40 #[.slice a l cap] w (RetD w (decR ps)) :=
  (decode_own a cap l ps w hl hm h hyes).mono fun _ _ ⟨ma, mc, ea, ec, h1, h2, h3⟩ => ⟨ma, mc, ea, ec, h1, fun _ _ hb hg => (h2.chg hb fun g hm => .inl (hg g hm)).at_, h3⟩

end Go.Proofs.YtdgpbdedaafdiaaGreat
