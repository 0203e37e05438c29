/-
  Slices of integers that are only read: 'IntsAt'; what is known of such an argument.
-/
import Derived.Test.YtdgpbdedaafdiaaGreatArgs
namespace Go.Proofs.YtdgpbdedaafdiaaGreat
open Go.ChangeShapes Go.WideShapes Go.ChangeAt Go.RowKit

/-- The cells behind the address a hold the integers zs. -/
structure IntsAt (w : World) (a : Option Addr) (cap : Nat) (zs : List Int) : Prop where
  le : zs.length ≤ cap
  max : cap ≤ maxLen
  wf : ∀ i, -9223372036854775808 ≤ zs.getD i 0 ∧ zs.getD i 0 ≤ 9223372036854775807
  cell : ∀ i, i < zs.length → ∃ b off, a = some ⟨b, off, none⟩ ∧ w.cell? ⟨b, off + i, none⟩ = some (.int .i64 (zs.getD i 0))

theorem IntsAt.below {w w' : World} {a : Option Addr} {cap : Nat} {zs : List Int} (h : IntsAt w a cap zs) (hb : Below w.heap.size w w') : IntsAt w' a cap zs :=
  ⟨h.le, h.max, h.wf, fun i hi => by obtain ⟨b, off, e, hc⟩ := h.cell i hi; exact ⟨b, off, e, cell_later hb hc⟩⟩

/-- An argument that is a slice of integers. -/
theorem ints_arg {H : Type} {enc : TypeId × Value → H} {W : World} {a : Option Addr} {len cap : Nat} {d : DataW H} {ps : List MemPlace} (h : DataW.Trod enc Tryz.prog W 0 (fun _ => true) true 30 (.slice a len cap) d ps) :
    ∃ qs : List Int, qs.length = len ∧ IntsAt W a cap qs := by
  obtain ⟨fuel, hf⟩ := h
  rcases open_ints Tryz.underlying30 Tryz.underlying3 (by kernel_rfl) hf with ⟨hcs, _⟩ | ⟨x, l, c, zs, hcs, _, hl, hm, hz, _, hcell, hwz⟩
  · simp [Value.cells] at hcs
    obtain ⟨rfl, rfl, rfl⟩ := hcs
    exact ⟨[], rfl, ⟨Nat.le_refl _, Nat.zero_le _, fun i => by simp, fun i hi => by simp at hi⟩⟩
  · simp [Value.cells] at hcs
    obtain ⟨rfl, rfl, rfl⟩ := hcs
    have hz' : zs.length = cap := by simpa using hz
    have hlt : (zs.take len).length = len := by rw [List.length_take]; omega
    refine ⟨zs.take len, hlt, ⟨by omega, hm, fun i => ?_, fun i hi => ?_⟩⟩
    · rw [List.getD_eq_getElem?_getD]
      by_cases hi : i < (zs.take len).length
      · rw [List.getElem?_eq_getElem hi]
        have := hwz _ (List.mem_of_mem_take (List.getElem_mem hi))
        simpa [Lit.wf, IntKind.min, IntKind.max, IntKind.signed, IntKind.bits] using this
      · rw [List.getElem?_eq_none (by omega)]; simp
    · rw [hlt] at hi
      obtain ⟨b, off, rfl⟩ := addr_of (hcell 0 (by omega))
      have hc := hcell i (by omega)
      rw [Go.WideShapes.add_plain] at hc
      refine ⟨b, off, rfl, ?_⟩
      rw [hc, List.getD_eq_getElem?_getD, List.getD_eq_getElem?_getD, List.getElem?_take_of_lt hi]

end Go.Proofs.YtdgpbdedaafdiaaGreat
