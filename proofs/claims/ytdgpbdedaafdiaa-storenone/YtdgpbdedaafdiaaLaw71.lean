/-
  The walk of the law EntryEncodes.
-/
import Derived.Test.YtdgpbdedaafdiaaAwake7
import Derived.Test.YtdgpbdedaafdiaaExt
namespace Go.Proofs.Ytdgpbdedaafdiaa
open Go.RowKit



/-- A sound record's bytes are read again. -/
theorem decode_back (a : Option Addr) (c l lm le : Nat) (r : Pr) (x : World) (hw : r.Wf) (hs : sndR r = true) (hl : (encR r).length = l) (hlm : r.mem.length = lm) (hle : r.ents.length = le) (h : SeenAt x a c (encR r)) :
    Calls Try.prog 40 #[.slice a l c] x fun e w' => ∃ ma mc ea ec, e = .returned (.tuple #[.agg #[.int .i64 r.kind, .int .i64 r.epoch, .slice ma lm mc, .int .i64 r.pos, .int .i64 r.last, .slice ea le ec], .int .i64 0]) ∧ RecAt w' ma mc ea ec r ∧ Below x.heap.size x w' :=
  (decode_yes a c l (encR r) x hl (by have := encR_len r hs; omega) h (dec_yes r hw hs).1).mono fun e w' h' => by
    rw [(dec_yes r hw hs).2] at h'
    obtain ⟨ma, mc, ea, ec, he, hk, hb⟩ := h'
    rw [hlm, hle] at he
    exact ⟨ma, mc, ea, ec, he, hk [] w' (Chg.of_below (Below.refl _ _)) (by simp), hb⟩

end Go.Proofs.Ytdgpbdedaafdiaa
