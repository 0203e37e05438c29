/-
  The law's frame, small and all; the reference's SameRecs.
-/
import Derived.Test.YtdgpbdedaafdiaaWalksB8
import Derived.Test.YtdgpbdedaafdiaaWalksB7
import Derived.Deep.DeepCutAuto
namespace Go.Proofs.Ytdgpbdedaafdiaa
open Go.RowKit


theorem own_nilC (w : World) (base B : Nat) (h : base ≤ w.heap.size) (hB : w.heap.size = B) : OwnB (w.alloc (.cells #[] 5)) base B 0 [] := by
  subst hB
  exact ownB_lit w base [] #[] rfl bytes_nil h (by unfold maxLen; simp)

theorem own_be4 (w : World) (base B n : Nat) (v0 : Int) (h : base ≤ w.heap.size) (hB : w.heap.size = B) (h0 : v0 = ((n / 16777216 % 256 : Nat) : Int)) :
    OwnB (w.alloc (.cells #[Value.int IntKind.u8 v0, Value.int IntKind.u8 ((n : Int) / 65536 % 256), Value.int IntKind.u8 ((n : Int) / 256 % 256), Value.int IntKind.u8 ((n : Int) % 256)] 5)) base B 4 (be4 n) := by
  subst hB h0
  refine ownB_lit w base (be4 n) _ ?_ (be4_bytes n) h (by rw [be4_len]; decide)
  simp [vals, be4]

/-- The cells of a record. -/
structure R6 (w : World) (b o : Nat) (r : Pr) (ma : Option Addr) (lm mc : Nat) (ea : Option Addr) (le ec : Nat) : Prop where
  c0 : w.cell? ⟨b, o, none⟩ = some (.int .i64 r.kind)
  c1 : w.cell? ⟨b, o + 1, none⟩ = some (.int .i64 r.epoch)
  c2 : w.cell? ⟨b, o + 2, none⟩ = some (.slice ma lm mc)
  c3 : w.cell? ⟨b, o + 3, none⟩ = some (.int .i64 r.pos)
  c4 : w.cell? ⟨b, o + 4, none⟩ = some (.int .i64 r.last)
  c5 : w.cell? ⟨b, o + 5, none⟩ = some (.slice ea le ec)

theorem R6.below {w w' : World} {b o : Nat} {r : Pr} {ma ea : Option Addr} {lm mc le ec : Nat} (h : R6 w b o r ma lm mc ea le ec) (hb : Below w.heap.size w w') : R6 w' b o r ma lm mc ea le ec :=
  ⟨cell_later hb h.c0, cell_later hb h.c1, cell_later hb h.c2, cell_later hb h.c3, cell_later hb h.c4, cell_later hb h.c5⟩

/-- One of the records: its cells, and what is read of them. -/
theorem RcA.one {w : World} {a : Option Addr} {cap : Nat} {xs : List Rl} (h : RcA w a cap xs) (k : Nat) (hk : k < xs.length) :
    ∃ b off, a = some ⟨b, off, none⟩ ∧ R6 w b (off + k * 6) (xs.getD k rl0).r (xs.getD k rl0).ma (xs.getD k rl0).r.mem.length (xs.getD k rl0).mc (xs.getD k rl0).ea (xs.getD k rl0).r.ents.length (xs.getD k rl0).ec ∧ (xs.getD k rl0).ok w := by
  obtain ⟨b, off, e, hc⟩ := h.el k hk
  exact ⟨b, off, e, ⟨hc 0 _ rfl, hc 1 _ rfl, hc 2 _ rfl, hc 3 _ rfl, hc 4 _ rfl, hc 5 _ rfl⟩, (h.rob _ (getD_mem xs k rl0 hk)).now⟩

def encX (x : Rl) : List Nat := encR x.r

theorem frms_len_take (cs : List (List Nat)) (k : Nat) : (frms (cs.take k)).length ≤ (frms cs).length := encL_take frm cs k

theorem frms_take_succ (xs : List Rl) (k : Nat) (h : k < xs.length) : frms ((xs.take (k + 1)).map encX) = frms ((xs.take k).map encX) ++ frm (encR (xs.getD k rl0).r) := by
  rw [map_snoc_take encX xs rl0 k h, frms_snoc]
  rfl

end Go.Proofs.Ytdgpbdedaafdiaa
