/-
  A result variable of many cells.
-/
import Derived.Test.YtggjpjpemgpeeaaGreatLd
namespace Go.Proofs.YtggjpjpemgpeeaaGreat
open Go.RowKit

theorem run_ldv {W : World} (t : TypeId) (n B o : Nat) (C : Array Value) (hs : (sizeOf t).run Tryz.prog W = .ok n W) (ha : (isAgg t).run Tryz.prog W = .ok true W) (hn : C.size = n)
    (h : ∀ i v, C[i]? = some v → W.cell? ⟨B, o + i, none⟩ = some v) : (loadVar t ⟨B, o, none⟩).run Tryz.prog W = .ok (.agg C) W := by
  have := run_ld t n B o C hs ha hn h
  simpa only [Go.Instr.loadAt, Go.Instr.sureAddr, Sem.run_bind, Sem.run_pure, Result.andThen] using this

theorem run_ldvM {W : World} (B : Nat) (C : Array Value) (hn : C.size = 19) (h : Box W B C) : (loadVar 40 ⟨B, 0, none⟩).run Tryz.prog W = .ok (.agg C) W :=
  run_ldv 40 19 B 0 C (by kernel_rfl) (by kernel_rfl) hn fun i v hv => by rw [Nat.zero_add]; exact h i v hv

theorem Bx.box {w : World} {B : Nat} {t : TypeId} {C : Array Value} (h : Bx w B t C) : Box w B C := fun i v hv => h.cell i v hv

theorem results_cell {fn : Func} {tmps : Array Value} {w : World} {i : Nat} {t : TypeId} {B : Nat} {C : Array Value} (hr : fn.results = #[.cell i t]) (ht : tmps.getD i undef = .pointer (some ⟨B, 0, none⟩))
    (hl : (loadVar t ⟨B, 0, none⟩).run Tryz.prog w = .ok (.agg C) w) : (results fn tmps).run Tryz.prog w = .ok (.agg C) w := by
  have ht' : tmps[i]?.getD undef = .pointer (some ⟨B, 0, none⟩) := by simpa using ht
  unfold results
  rw [hr]
  simp [ht', asAddr, hl]

theorem results_cell2 {fn : Func} {tmps : Array Value} {w : World} {i j : Nat} {t : TypeId} {B : Nat} {C : Array Value} {v : Value} (hr : fn.results = #[.cell i t, .tmp j]) (ht : tmps.getD i undef = .pointer (some ⟨B, 0, none⟩)) (hv : tmps.getD j undef = v)
    (hl : (loadVar t ⟨B, 0, none⟩).run Tryz.prog w = .ok (.agg C) w) : (results fn tmps).run Tryz.prog w = .ok (.tuple #[.agg C, v]) w := by
  have ht' : tmps[i]?.getD undef = .pointer (some ⟨B, 0, none⟩) := by simpa using ht
  have hv' : tmps[j]?.getD undef = v := by simpa using hv
  unfold results
  rw [hr]
  simp [ht', hv', asAddr, hl, Result.andThen]

end Go.Proofs.YtggjpjpemgpeeaaGreat
