/-
  What is known of an argument that is a configuration.
-/
import Derived.Test.YtdgpbdedaafdiaaInts
namespace Go.Proofs.Ytdgpbdedaafdiaa
open Go.ChangeShapes Go.WideShapes Go.ChangeAt Go.RowKit

theorem cF_int : Try.prog.cellsOf 3 = 1 := by kernel_rfl
theorem cF_ints : Try.prog.cellsOf 33 = 1 := by kernel_rfl
theorem cF_conf : Try.prog.cellsOf 35 = 2 := by kernel_rfl

section
variable {H : Type} {enc : TypeId × Value → H} {W : World}

/-- The cell of a slice of integers. -/
theorem ints_cellF {fuel : Nat} {v : Value} {x : DataW H × List MemPlace} (h : DataW.trod enc Try.prog W 0 (fun _ => true) true fuel 33 [v] = some x) :
    ∃ (a : Option Addr) (c : Nat) (zs : List Int), v = .slice a zs.length c ∧ IntsAt W a c zs := by
  rcases open_ints Try.underlying33 Try.underlying3 (by kernel_rfl) h with ⟨hcs, _⟩ | ⟨ad, l, c, zs, hcs, _, hl, hm, hz, _, hcell, hwz⟩
  · simp at hcs
    exact ⟨none, 0, [], hcs, ⟨Nat.zero_le _, Nat.zero_le _, fun i => by simp, fun i hi => by simp at hi⟩⟩
  · simp at hcs
    subst hcs
    have hz' : zs.length = c := by simpa using hz
    have hlt : (zs.take l).length = l := by rw [List.length_take]; omega
    refine ⟨some ad, c, zs.take l, by rw [hlt], ⟨by omega, hm, fun i => ?_, fun i hi => ?_⟩⟩
    · rw [List.getD_eq_getElem?_getD]
      by_cases hi : i < (zs.take l).length
      · rw [List.getElem?_eq_getElem hi]
        have := hwz _ (List.mem_of_mem_take (List.getElem_mem hi))
        simpa [Lit.wf, IntKind.min, IntKind.max, IntKind.signed, IntKind.bits] using this
      · rw [List.getElem?_eq_none (by omega)]; simp
    · rw [hlt] at hi
      obtain ⟨b, off, rfl⟩ := addr_of (hcell 0 (by omega))
      have hc := hcell i (by omega)
      rw [Go.WideShapes.add_plain] at hc
      refine ⟨b, off, rfl, ?_⟩
      rw [hc, List.getD_eq_getElem?_getD, List.getD_eq_getElem?_getD, List.getElem?_take_of_lt hi]

set_option maxRecDepth 100000 in
/-- An argument that is a configuration. -/
theorem conf_arg {cs : Array Value} {d : DataW H} {ps : List MemPlace} (h : DataW.Trod enc Try.prog W 0 (fun _ => true) true 35 (.agg cs) d ps) :
    ∃ (ep : Int) (a : Option Addr) (c : Nat) (zs : List Int), cs = #[.int .i64 ep, .slice a zs.length c] ∧ (-9223372036854775808 ≤ ep ∧ ep ≤ 9223372036854775807) ∧ IntsAt W a c zs := by
  obtain ⟨fuel, hf⟩ := h
  obtain ⟨xs, n, _, _, hl, hxl, hf⟩ := DataW.trod_struct Try.underlying35 hf
  rw [cF_conf] at hl
  obtain ⟨L, rfl⟩ : ∃ L : List Value, cs = L.toArray := ⟨cs.toList, by simp⟩
  simp only [Value.cells] at hl hf
  match xs, hxl, L, hl with
  | [y0, y1], _, [v0, v1], _ =>
    have g0 := hf 0 _ rfl
    have g1 := hf 1 _ rfl
    simp [cF_int, cF_ints] at g0 g1
    obtain ⟨z0, e0, _, w0⟩ := DataW.trod_int Try.underlying3 g0
    obtain ⟨a, c, zs, e1, hs⟩ := ints_cellF g1
    simp at e0
    subst e0 e1
    exact ⟨z0, a, c, zs, rfl, by simpa [Lit.wf, IntKind.min, IntKind.max, IntKind.signed, IntKind.bits] using w0, hs⟩

end

end Go.Proofs.Ytdgpbdedaafdiaa
