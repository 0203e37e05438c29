/-
  The walk of the law EntryEncodes.
  The walk of the law EntryDecodes.
-/
import Derived.Test.YtdgpbdedaafdiaaAwake7
import Derived.Test.YtdgpbdedaafdiaaExt
import Derived.Deep.DeepCutAuto
namespace Go.Proofs.Ytdgpbdedaafdiaa
open Go.RowKit



/-- A sound record's bytes are read again. -/
theorem decode_back (a : Option Addr) (c l lm le : Nat) (r : Pr) (x : World) (hw : r.Wf) (hs : sndR r = true) (hl : (encR r).length = l) (hlm : r.mem.length = lm) (hle : r.ents.length = le) (h : SeenAt x a c (encR r)) :
    Calls Try.prog 40 #[.slice a l c] x fun e w' => ∃ ma mc ea ec, e = .returned (.tuple #[.agg #[.int .i64 r.kind, .int .i64 r.epoch, .slice ma lm mc, .int .i64 r.pos, .int .i64 r.last, .slice ea le ec], .int .i64 0]) ∧ RecAt w' ma mc ea ec r ∧ Below x.heap.size x w' :=
  (decode_yes a c l (encR r) x hl (by have := encR_len r hs; omega) h (dec_yes r hw hs).1).mono fun e w' h' => by
    rw [(dec_yes r hw hs).2] at h'
    obtain ⟨ma, mc, ea, ec, he, hk, hb⟩ := h'
    rw [hlm, hle] at he
    exact ⟨ma, mc, ea, ec, he, hk [] w' (Chg.of_below (Below.refl _ _)) (by simp), hb⟩

end Go.Proofs.Ytdgpbdedaafdiaa

namespace Go.Proofs.Ytdgpbdedaafdiaa
open Go.RowKit



/-- What is told of bytes that are a record's. -/
theorem decode_told (a : Option Addr) (c l : Nat) (ps : List Nat) (x : World) (hl : ps.length = l) (hm : l ≤ 100000000) (h : SeenAt x a c ps) (hyes : decB ps = true) :
    Calls Try.prog 40 #[.slice a l c] x fun e w' => ∃ (r : Pr) (ma ea : Option Addr) (mc ec lm le : Nat), e = .returned (.tuple #[.agg #[.int .i64 r.kind, .int .i64 r.epoch, .slice ma lm mc, .int .i64 r.pos, .int .i64 r.last, .slice ea le ec], .int .i64 0]) ∧ RecAt w' ma mc ea ec r ∧ r.mem.length = lm ∧ r.ents.length = le ∧ sndR r = true ∧ encR r = ps ∧ Below x.heap.size x w' :=
  (decode_yes a c l ps x hl hm h hyes).mono fun e w' h' => by
    obtain ⟨ma, mc, ea, ec, he, hk, hb⟩ := h'
    obtain ⟨k1, _, k3⟩ := dec_can ps h.byte hyes
    exact ⟨decR ps, ma, ea, mc, ec, _, _, he, hk [] w' (Chg.of_below (Below.refl _ _)) (by simp), rfl, rfl, k1, k3, hb⟩

/-- The first bytes, 3000 at most. -/
def Clamped7 (w : World) (a : Option Addr) (c : Nat) (v : Value) : Prop := ∃ (l : Nat) (qs : List Nat), v = .slice a l c ∧ l ≤ 3000 ∧ qs.length = l ∧ SeenAt w a c qs

end Go.Proofs.Ytdgpbdedaafdiaa
