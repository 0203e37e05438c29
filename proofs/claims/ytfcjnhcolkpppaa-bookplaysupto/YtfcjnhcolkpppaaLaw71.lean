/-
  The walk of the law EntryEncodes.
-/
import Derived.Test.YtfcjnhcolkpppaaAwake7
import Derived.Test.YtfcjnhcolkpppaaExt
namespace Go.Proofs.Ytfcjnhcolkpppaa
open Go.RowKit



/-- A sound record's bytes are read again. -/
theorem decode_back (a : Option Addr) (c l lm le : Nat) (r : Pr) (x : World) (hw : r.Wf) (hs : sndR r = true) (hl : (encR r).length = l) (hlm : r.mem.length = lm) (hle : r.ents.length = le) (h : SeenAt x a c (encR r)) :
    Calls Try.prog 32 #[.slice a l c] x fun e w' => ∃ ma mc ea ec, e = .returned (.tuple #[.agg #[.int .i64 r.kind, .int .i64 r.epoch, .slice ma lm mc, .int .i64 r.pos, .int .i64 r.last, .slice ea le ec], .int .i64 0]) ∧ RecAt w' ma mc ea ec r ∧ Below x.heap.size x w' :=
  (decode_yes a c l (encR r) x hl (by have := encR_len r hs; omega) h (dec_yes r hw hs).1).mono fun e w' h' => by
    rw [(dec_yes r hw hs).2] at h'
    obtain ⟨ma, mc, ea, ec, he, hk, hb⟩ := h'
    rw [hlm, hle] at he
    exact ⟨ma, mc, ea, ec, he, hk [] w' (Chg.of_below (Below.refl _ _)) (by simp), hb⟩

/-- A record is the same as itself. -/
theorem sameRec_self (ma ea ma' ea' : Option Addr) (mc ec mc' ec' lm le : Nat) (r : Pr) (x : World) (h : RecAt x ma mc ea ec r) (h' : RecAt x ma' mc' ea' ec' r) (hlm : r.mem.length = lm) (hle : r.ents.length = le) (hs : Small r) :
    Calls Try.prog 31 #[.agg #[.int .i64 r.kind, .int .i64 r.epoch, .slice ma lm mc, .int .i64 r.pos, .int .i64 r.last, .slice ea le ec], .agg #[.int .i64 r.kind, .int .i64 r.epoch, .slice ma' lm mc', .int .i64 r.pos, .int .i64 r.last, .slice ea' le ec']] x fun e w' => e = .returned (.bool true) ∧ Below x.heap.size x w' :=
  (sameRec_any ma ea mc ec lm le r ma' ea' mc' ec' lm le r x h hlm hle hs h' hlm hle hs).mono fun e w' hx => by
    rw [show decide (encR r = encR r) = true by simp] at hx
    exact hx

end Go.Proofs.Ytfcjnhcolkpppaa
