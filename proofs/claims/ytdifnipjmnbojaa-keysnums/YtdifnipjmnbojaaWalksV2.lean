/-
  What pack's Reader does.
-/
import Derived.Test.YtdifnipjmnbojaaWalksV1
namespace Go.Proofs.Ytdifnipjmnbojaa
open Go.RowKit

theorem ret_two {a b c d : Int} (h : a = c) (h' : b = d) : Ending.returned (.tuple #[.int .u64 a, .int .i64 b]) = .returned (.tuple #[.int .u64 c, .int .i64 d]) := by rw [h, h']

theorem ret_boolean {a b : Bool} (h : a = b) : Ending.returned (.bool a) = .returned (.bool b) := by rw [h]

theorem drop_at (ps : List Nat) (k : Nat) (h : k < ps.length) : ps.drop k = ps.getD k 0 :: ps.drop (k + 1) := by
  rw [List.drop_eq_getElem_cons h, List.getD_eq_getElem?_getD, List.getElem?_eq_getElem h]; rfl

theorem or_step (U c k : Nat) (hU : U < 2 ^ (7 * k)) (hk : k ≤ 9) (h9 : k = 9 → c % 128 ≤ 1) :
    bits BinOp.or IntKind.u64 (U : Int) (IntKind.u64.wrap (((c : Int) % 128) * 2 ^ (7 * k))) = ((U + c % 128 * 2 ^ (7 * k) : Nat) : Int) := by
  have hp : (2 : Nat) ^ (7 * k) ≤ 2 ^ 63 := Nat.pow_le_pow_right (by omega) (by omega)
  have hs : c % 128 * 2 ^ (7 * k) < 18446744073709551616 := by
    by_cases e : k = 9
    · have := Nat.mul_le_mul_right (2 ^ (7 * k)) (h9 e); omega
    · have h1 : c % 128 * 2 ^ (7 * k) ≤ 127 * 2 ^ (7 * k) := Nat.mul_le_mul_right _ (by omega)
      have h2 : (2 : Nat) ^ (7 * k) ≤ 2 ^ 56 := Nat.pow_le_pow_right (by omega) (by omega)
      omega
  have e : ((c : Int) % 128) * 2 ^ (7 * k) = ((c % 128 * 2 ^ (7 * k) : Nat) : Int) := by simp
  rw [e, IntWalk.u64_in _ (by omega), u64_or_nat _ _ (by omega) hs]
  have := Nat.shiftLeft_add_eq_or_of_lt (i := 7 * k) (b := U) hU (c % 128)
  rw [Nat.shiftLeft_eq] at this
  rw [Nat.or_comm, ← this, Nat.add_comm]

/-- An address in another block than R, or none. -/
def Off (R : Nat) (a : Option Addr) : Prop := a = none ∨ ∃ b off, a = some ⟨b, off, none⟩ ∧ b ≠ R

/-- An address in block H, which is not R, or none. -/
def OffH (H R : Nat) (a : Option Addr) : Prop := a = none ∨ ∃ b off, a = some ⟨b, off, none⟩ ∧ b ≠ R ∧ b = H

theorem OffH.off {H R : Nat} {a : Option Addr} (h : OffH H R a) : Off R a := by
  rcases h with e | ⟨b, off, e, h1, _⟩
  · exact .inl e
  · exact .inr ⟨b, off, e, h1⟩

section
variable {H : Nat}

/-- A Reader at block R, its bytes in block H: what is left, and whether it is invalid. -/
structure RdrH (H : Nat) (w : World) (R : Nat) (s : Pk.St) : Prop where
  rest : ∃ a cap, w.cell? ⟨R, 0, none⟩ = some (.slice a s.1.length cap) ∧ SeenAt w a cap s.1 ∧ OffH H R a
  flag : w.cell? ⟨R, 1, none⟩ = some (.bool s.2)
  free : ∀ k, w.frozen? ⟨R, k, none⟩ = false
  home : H < w.heap.size

theorem RdrH.lt {w : World} {R : Nat} {s : Pk.St} (h : RdrH H w R s) : R < w.heap.size := World.block_lt_of_cell? w ⟨R, 1, none⟩ h.flag

theorem RdrH.below {w w' : World} {R : Nat} {s : Pk.St} (h : RdrH H w R s) (hb : Below w.heap.size w w') : RdrH H w' R s := by
  obtain ⟨a, cap, hc, hs, hn⟩ := h.rest
  exact ⟨⟨a, cap, cell_later hb hc, hs.below hb, hn⟩, cell_later hb h.flag, fun k => by rw [hb.frozen (p := ⟨R, k, none⟩) h.lt]; exact h.free k, Nat.lt_of_lt_of_le h.home hb.size⟩

theorem RdrH.alike {w w' : World} {R : Nat} {s : Pk.St} (h : RdrH H w R s) (e : w'.heap = w.heap) : RdrH H w' R s := by
  obtain ⟨a, cap, hc, hs, hn⟩ := h.rest
  exact ⟨⟨a, cap, by rw [← hc]; simp [World.cell?, e], hs.alike e, hn⟩, by rw [← h.flag]; simp [World.cell?, e], fun k => by rw [← h.free k]; simp [World.frozen?, e], by rw [e]; exact h.home⟩

theorem chg_set (w : World) (R k : Nat) (v : Value) : Chg [R] w (w.setCell ⟨R, k, none⟩ v) :=
  let h := (Below.refl 0 w).setCell (p := ⟨R, k, none⟩) (Nat.zero_le _) v
  ⟨h.os, h.tape, h.output, h.size, fun i _ hn => Below.heap_setCell w _ _ i (by simpa using hn)⟩

theorem SeenAt.apart {w w' : World} {R : Nat} {a : Option Addr} {cap : Nat} {ps : List Nat} (h : SeenAt w a cap ps) (hb : Chg [R] w w') (hn : Off R a) : SeenAt w' a cap ps :=
  h.chg hb fun b off e => by
    rcases hn with e' | ⟨b', off', e', h'⟩
    · rw [e'] at e; cases e
    · rw [e'] at e; cases e; simpa using h'

theorem RdrH.put {w : World} {R : Nat} {s : Pk.St} (h : RdrH H w R s) {a : Option Addr} {cap : Nat} {bs : List Nat} (hs : SeenAt w a cap bs) (hn : OffH H R a) :
    RdrH H (w.setCell ⟨R, 0, none⟩ (.slice a bs.length cap)) R (bs, s.2) := by
  obtain ⟨a0, c0, hc, _, _⟩ := h.rest
  refine ⟨⟨a, cap, World.cell?_setCell_same _ _ _ hc, hs.apart (chg_set w R 0 _) hn.off, hn⟩, ?_, fun k => by rw [World.frozen?_setCell]; exact h.free k, by simpa using h.home⟩
  rw [World.cell?_setCell_other _ _ _ _ (by simp)]
  exact h.flag

theorem RdrH.bad {w : World} {R : Nat} {s : Pk.St} (h : RdrH H w R s) : RdrH H (w.setCell ⟨R, 1, none⟩ (.bool true)) R (s.1, true) := by
  obtain ⟨a, cap, hc, hs, hn⟩ := h.rest
  refine ⟨⟨a, cap, ?_, hs.apart (chg_set w R 1 _) hn.off, hn⟩, World.cell?_setCell_same _ _ _ h.flag, fun k => by rw [World.frozen?_setCell]; exact h.free k, by simpa using h.home⟩
  rw [World.cell?_setCell_other _ _ _ _ (by simp)]
  exact hc

/-- The bytes behind the first k. -/
theorem SeenAt.drop {w : World} {b off cap : Nat} {ps : List Nat} (h : SeenAt w (some ⟨b, off, none⟩) cap ps) (k : Nat) (hk : k ≤ ps.length) : SeenAt w (some ⟨b, off + k, none⟩) (cap - k) (ps.drop k) :=
  ⟨by have := h.le; simp; omega, by have := h.max; omega, fun c hc => h.byte c (List.mem_of_mem_drop hc), fun i hi => by
    rw [List.length_drop] at hi
    obtain ⟨b', off', e, hc⟩ := h.cell (k + i) (by omega)
    cases e
    refine ⟨b, off + k, rfl, ?_⟩
    rw [Nat.add_assoc, hc, List.getD_eq_getElem?_getD, List.getD_eq_getElem?_getD, List.getElem?_drop]⟩

/-- A Reader handed back, in new memory. -/
def RetRH (w : World) (s : Pk.St) (e : Ending) (w' : World) : Prop :=
  ∃ R H, e = .returned (.pointer (some ⟨R, 0, none⟩)) ∧ w.heap.size ≤ R ∧ RdrH H w' R s ∧ Below w.heap.size w w'

/-- A number read by the Reader at R, and what the Reader is then. -/
def RIntH (H : Nat) (w : World) (R : Nat) (v : Int) (s : Pk.St) (e : Ending) (w' : World) : Prop := e = .returned (.int .i64 v) ∧ RdrH H w' R s ∧ Chg [R] w w'

theorem Fresh.widen {w1 w2 w w' : World} {a : Option Addr} (h : Fresh w1 w2 a) (h1 : w.heap.size ≤ w1.heap.size) (h2 : w2.heap.size ≤ w'.heap.size) : Fresh w w' a := by
  rcases h with e | ⟨b, off, e, k1, k2⟩
  · exact .inl e
  · exact .inr ⟨b, off, e, by omega, by omega⟩

/-- A text read by the Reader at R, in new memory, and what the Reader is then. -/
def RTxtH (H : Nat) (w : World) (R : Nat) (ps : List Nat) (s : Pk.St) (e : Ending) (w' : World) : Prop :=
  ∃ a cap, e = .returned (.slice a ps.length cap) ∧ SeenAt w' a cap ps ∧ RdrH H w' R s ∧ Chg [R] w w' ∧ Fresh w w' a

/-- Valid, and nothing is left. -/
def Pk.fin (s : Pk.St) : Bool := !s.2 && decide (s.1.length = 0)

end

/-- A Reader at block R: what is left, and whether it is invalid. -/
def Rdr (w : World) (R : Nat) (s : Pk.St) : Prop := ∃ H, RdrH H w R s

theorem Rdr.lt {w : World} {R : Nat} {s : Pk.St} (h : Rdr w R s) : R < w.heap.size := by obtain ⟨H, h⟩ := h; exact h.lt

theorem Rdr.below {w w' : World} {R : Nat} {s : Pk.St} (h : Rdr w R s) (hb : Below w.heap.size w w') : Rdr w' R s := by obtain ⟨H, h⟩ := h; exact ⟨H, h.below hb⟩

theorem Rdr.alike {w w' : World} {R : Nat} {s : Pk.St} (h : Rdr w R s) (e : w'.heap = w.heap) : Rdr w' R s := by obtain ⟨H, h⟩ := h; exact ⟨H, h.alike e⟩

/-- A Reader handed back, in new memory. -/
def RetR (w : World) (s : Pk.St) (e : Ending) (w' : World) : Prop :=
  ∃ R, e = .returned (.pointer (some ⟨R, 0, none⟩)) ∧ w.heap.size ≤ R ∧ Rdr w' R s ∧ Below w.heap.size w w'

/-- A number read by the Reader at R, and what the Reader is then. -/
def RInt (w : World) (R : Nat) (v : Int) (s : Pk.St) (e : Ending) (w' : World) : Prop := e = .returned (.int .i64 v) ∧ Rdr w' R s ∧ Chg [R] w w'

/-- A text read by the Reader at R, and what the Reader is then. -/
def RTxt (w : World) (R : Nat) (ps : List Nat) (s : Pk.St) (e : Ending) (w' : World) : Prop :=
  ∃ a cap, e = .returned (.slice a ps.length cap) ∧ SeenAt w' a cap ps ∧ Rdr w' R s ∧ Chg [R] w w'

end Go.Proofs.Ytdifnipjmnbojaa
