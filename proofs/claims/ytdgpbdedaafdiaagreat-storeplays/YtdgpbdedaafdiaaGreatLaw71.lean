/-
  The walk of the law EntryEncodes.
  The walk of the law EntryDecodes.
-/
import Derived.Test.YtdgpbdedaafdiaaGreatAwake7
import Derived.Test.YtdgpbdedaafdiaaGreatExt
import Derived.Deep.DeepCutAuto
namespace Go.Proofs.YtdgpbdedaafdiaaGreat
open Go.RowKit



/-- A sound record's bytes are read again. -/
theorem decode_back (a : Option Addr) (c l lm le : Nat) (r : Pr) (x : World) (hw : r.Wf) (hs : sndR r = true) (hl : (encR r).length = l) (hlm : r.mem.length = lm) (hle : r.ents.length = le) (h : SeenAt x a c (encR r)) :
    Calls Tryz.prog 40 #[.slice a l c] x fun e w' => ∃ ma mc ea ec, e = .returned (.tuple #[.agg #[.int .i64 r.kind, .int .i64 r.epoch, .slice ma lm mc, .int .i64 r.pos, .int .i64 r.last, .slice ea le ec], .int .i64 0]) ∧ RecAt w' ma mc ea ec r ∧ Below x.heap.size x w' :=
  (decode_yes a c l (encR r) x hl (by have := encR_len r hs; omega) h (dec_yes r hw hs).1).mono fun e w' h' => by
    rw [(dec_yes r hw hs).2] at h'
    obtain ⟨ma, mc, ea, ec, he, hk, hb⟩ := h'
    rw [hlm, hle] at he
    exact ⟨ma, mc, ea, ec, he, hk [] w' (Chg.of_below (Below.refl _ _)) (by simp), hb⟩

/-- A record is the same as itself. -/
theorem sameRec_self (ma ea ma' ea' : Option Addr) (mc ec mc' ec' lm le : Nat) (r : Pr) (x : World) (h : RecAt x ma mc ea ec r) (h' : RecAt x ma' mc' ea' ec' r) (hlm : r.mem.length = lm) (hle : r.ents.length = le) (hs : Small r) :
    Calls Tryz.prog 31 #[.agg #[.int .i64 r.kind, .int .i64 r.epoch, .slice ma lm mc, .int .i64 r.pos, .int .i64 r.last, .slice ea le ec], .agg #[.int .i64 r.kind, .int .i64 r.epoch, .slice ma' lm mc', .int .i64 r.pos, .int .i64 r.last, .slice ea' le ec']] x fun e w' => e = .returned (.bool true) ∧ Below x.heap.size x w' :=
  (sameRec_any ma ea mc ec lm le r ma' ea' mc' ec' lm le r x h hlm hle hs h' hlm hle hs).mono fun e w' hx => by
    rw [show decide (encR r = encR r) = true by simp] at hx
    exact hx

end Go.Proofs.YtdgpbdedaafdiaaGreat

namespace Go.Proofs.YtdgpbdedaafdiaaGreat
open Go.RowKit



/-- What is told of bytes that are a record's. -/
theorem decode_told (a : Option Addr) (c l : Nat) (ps : List Nat) (x : World) (hl : ps.length = l) (hm : l ≤ 100000000) (h : SeenAt x a c ps) (hyes : decB ps = true) :
    Calls Tryz.prog 40 #[.slice a l c] x fun e w' => ∃ (r : Pr) (ma ea : Option Addr) (mc ec lm le : Nat), e = .returned (.tuple #[.agg #[.int .i64 r.kind, .int .i64 r.epoch, .slice ma lm mc, .int .i64 r.pos, .int .i64 r.last, .slice ea le ec], .int .i64 0]) ∧ RecAt w' ma mc ea ec r ∧ r.mem.length = lm ∧ r.ents.length = le ∧ sndR r = true ∧ encR r = ps ∧ Below x.heap.size x w' :=
  (decode_yes a c l ps x hl hm h hyes).mono fun e w' h' => by
    obtain ⟨ma, mc, ea, ec, he, hk, hb⟩ := h'
    obtain ⟨k1, _, k3⟩ := dec_can ps h.byte hyes
    exact ⟨decR ps, ma, ea, mc, ec, _, _, he, hk [] w' (Chg.of_below (Below.refl _ _)) (by simp), rfl, rfl, k1, k3, hb⟩

/-- Nothing is the same as nothing. -/
theorem sameRec_zero (x : World) :
    Calls Tryz.prog 31 #[.agg #[.int .i64 0, .int .i64 0, .slice none 0 0, .int .i64 0, .int .i64 0, .slice none 0 0], .agg #[.int .i64 0, .int .i64 0, .slice none 0 0, .int .i64 0, .int .i64 0, .slice none 0 0]] x fun e w' => e = .returned (.bool true) ∧ Below x.heap.size x w' :=
  sameRec_self none none none none 0 0 0 0 0 0 pr0 x ⟨IntsAt.nil (Nat.zero_le _), EnsAt.nil (Nat.zero_le _), wf_0⟩ ⟨IntsAt.nil (Nat.zero_le _), EnsAt.nil (Nat.zero_le _), wf_0⟩ rfl rfl small_0

theorem refRec_yes (ma ea : Option Addr) (mc ec lm le : Nat) (r : Pr) (w : World) (h : RecAt w ma mc ea ec r) (hlm : r.mem.length = lm) (hle : r.ents.length = le) (hyes : sndR r = true) :
    Calls Tryz.prog 10 #[.agg #[.int .i64 r.kind, .int .i64 r.epoch, .slice ma lm mc, .int .i64 r.pos, .int .i64 r.last, .slice ea le ec]] w fun e w' => e = .returned (.bool true) ∧ Below w.heap.size w w' :=
  (refRec_any ma ea mc ec lm le r w h hlm hle).mono fun e w' hx => by rw [hyes] at hx; exact hx

/-- The first bytes, 3000 at most. -/
def Clamped7 (w : World) (a : Option Addr) (c : Nat) (v : Value) : Prop := ∃ (l : Nat) (qs : List Nat), v = .slice a l c ∧ l ≤ 3000 ∧ qs.length = l ∧ SeenAt w a c qs

end Go.Proofs.YtdgpbdedaafdiaaGreat
