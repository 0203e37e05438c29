/-
  Parts of slices of bytes: x[n:], x[:n], x[m:n].
-/
import Derived.Test.YtjegidnlnjgbkaaMem
namespace Go.Proofs.Ytjegidnlnjgbkaa
open Go.RowKit

theorem seen_take {w0 : World} (a : Option Addr) (q c l : Nat) (ps : List Nat) (w : World) (hl : ps.length = q) (h : SeenAt w0 a c ps) (hle : l ≤ q) : (Instr.slice 29 (.slice a q c) none (some (.int .i64 (l : Int))) none).run Try.prog w = .ok (.slice a l c) w := by
  have hc := h.le
  rcases a with _ | ⟨b, off, sp⟩
  · have h0 : ps = [] := by
      cases ps with
      | nil => rfl
      | cons x xs => obtain ⟨b, off, e, _⟩ := h.cell 0 (by simp); cases e
    subst h0
    simp at hl
    subst hl
    obtain rfl : l = 0 := by omega
    rw [run_slice_h w 29 none 0 c (by kernel_rfl) .i64 ((0 : Nat) : Int) (by omega) (by omega)]
    have hs : (sizeOf (Try.prog.elem 29)).run Try.prog w = .ok 1 w := by kernel_rfl
    rw [hs]
    simp [Result.andThen, sliced]
  · rw [run_slice_h w 29 (some ⟨b, off, sp⟩) q c (by kernel_rfl) .i64 (l : Int) (by omega) (by omega)]
    have hs : (sizeOf (Try.prog.elem 29)).run Try.prog w = .ok 1 w := by kernel_rfl
    rw [hs]
    simp [Result.andThen, sliced, Addr.add]

theorem seen_take' {w0 : World} (a : Option Addr) (q c l : Nat) (ps : List Nat) (w : World) (hl : ps.length = q) (h : SeenAt w0 a c ps) (hle : l ≤ q) : (Instr.sliceAt 29 (.slice a q c) none (some (.int .i64 (l : Int))) none).run Try.prog w = .ok (.slice a l c) w := by
  rw [run_sliceAt_slice w 29 _ _ _ _ (by kernel_rfl)]
  exact seen_take a q c l ps w hl h hle

def fromA (a : Option Addr) (c n : Nat) : Option Addr := if c = n then a else a.map (·.add n)

theorem slice_from (a : Option Addr) (l c n : Nat) (hn : n ≤ l) (w : World) : (Instr.slice 29 (.slice a l c) (some (.int .i64 (n : Int))) none none).run Try.prog w = .ok (.slice (fromA a c n) (l - n) (c - n)) w := by
  rw [run_slice_l w 29 a l c (by kernel_rfl) .i64 (n : Int) (by omega) (by omega)]
  have hs : (sizeOf (Try.prog.elem 29)).run Try.prog w = .ok 1 w := by kernel_rfl
  rw [hs]
  simp only [Result.andThen, sliced, fromA, Int.toNat_natCast, Nat.mul_one]

theorem slice_from' (a : Option Addr) (l c n : Nat) (hn : n ≤ l) (w : World) : (Instr.sliceAt 29 (.slice a l c) (some (.int .i64 (n : Int))) none none).run Try.prog w = .ok (.slice (fromA a c n) (l - n) (c - n)) w := by
  rw [run_sliceAt_slice w 29 _ _ _ _ (by kernel_rfl)]
  exact slice_from a l c n hn w

theorem SeenAt.from {w : World} {a : Option Addr} {c : Nat} {ps : List Nat} (h : SeenAt w a c ps) (n : Nat) (hn : n ≤ ps.length) : SeenAt w (fromA a c n) (c - n) (ps.drop n) where
  le := by have := h.le; rw [List.length_drop]; omega
  max := by have := h.max; omega
  byte c hc := h.byte c (List.mem_of_mem_drop hc)
  cell i hi := by
    rw [List.length_drop] at hi
    have hl := h.le
    obtain ⟨b, off, rfl, hc⟩ := h.cell (n + i) (by omega)
    unfold fromA
    rw [if_neg (by omega)]
    refine ⟨b, off + n, ?_, ?_⟩
    · simp [Go.WideShapes.add_plain]
    · rw [List.getD_eq_getElem?_getD, List.getElem?_drop, ← List.getD_eq_getElem?_getD, Nat.add_assoc]
      exact hc

theorem slice_both (a : Option Addr) (l c m n : Nat) (hm : m ≤ n) (hn : n ≤ l) (hc : l ≤ c) (w : World) : (Instr.slice 29 (.slice a l c) (some (.int .i64 (m : Int))) (some (.int .i64 (n : Int))) none).run Try.prog w = .ok (.slice (fromA a c m) (n - m) (c - m)) w := by
  rw [run_slice_lh w 29 a l c (by kernel_rfl) .i64 .i64 (m : Int) (n : Int) (by omega) (by omega) (by omega)]
  have hs : (sizeOf (Try.prog.elem 29)).run Try.prog w = .ok 1 w := by kernel_rfl
  rw [hs]
  simp only [Result.andThen, sliced, fromA, Int.toNat_natCast, Nat.mul_one]

theorem slice_both' (a : Option Addr) (l c m n : Nat) (hm : m ≤ n) (hn : n ≤ l) (hc : l ≤ c) (w : World) : (Instr.sliceAt 29 (.slice a l c) (some (.int .i64 (m : Int))) (some (.int .i64 (n : Int))) none).run Try.prog w = .ok (.slice (fromA a c m) (n - m) (c - m)) w := by
  rw [run_sliceAt_slice w 29 _ _ _ _ (by kernel_rfl)]
  exact slice_both a l c m n hm hn hc w

end Go.Proofs.Ytjegidnlnjgbkaa
