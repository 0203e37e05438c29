/-
  An argument that is a slice of slices of bytes, with the form's reach: no row is longer than memory.
-/
import Derived.Test.YtjefjlalebpodaaArgs
import Derived.SizedLaws
namespace Go.Proofs.Ytjefjlalebpodaa
open Go.ChangeShapes Go.WideShapes Go.ChangeAt Go.RowKit

theorem weights_all {H : Type} {P : Program} {e : TypeId} : ∀ {ds : List (DataW H)} {d : DataW H}, d ∈ ds → ∀ n ∈ d.weights P e, n ∈ DataW.weightsAll P e ds
  | d0 :: ds, d, hd, n, hn => by
    simp only [DataW.weightsAll, List.mem_append]
    rcases List.mem_cons.mp hd with rfl | hd
    · exact .inl hn
    · exact .inr (weights_all hd n hn)

theorem bytes8 : Try.prog.bytesOf 5 = 1 := by kernel_rfl

theorem grid_argZ {H : Type} {enc : TypeId × Value → H} {W : World} {a : Option Addr} {len cap : Nat} {d : DataW H} {ps : List MemPlace} (h : DataW.Trod enc Try.prog W 0 (fun _ => true) true 30 (.slice a len cap) d ps)
    (hz : ∀ n ∈ d.weights Try.prog 30, n ≤ reachBytes) :
    ∃ m : List (List Nat), m.length = len ∧ GridAt W a cap m ∧ ∀ i, i < m.length → (m.getD i []).length ≤ 140737488351232 := by
  obtain ⟨fuel, hf⟩ := h
  rcases Go.Deep.open_int_rows Try.underlying30 Try.underlying22 Try.underlying5 (by kernel_rfl) (by kernel_rfl) hf with ⟨hcs, _⟩ | ⟨x, l, c, A, L, C, Z, hcs, _, hl, hm, hx, hrow⟩
  · simp [Value.cells] at hcs
    obtain ⟨rfl, rfl, rfl⟩ := hcs
    exact ⟨[], rfl, GridAt.nil (Nat.zero_le _), fun i hi => by simp at hi⟩
  · simp [Value.cells] at hcs
    obtain ⟨rfl, rfl, rfl⟩ := hcs
    simp only [Prod.mk.injEq] at hx
    obtain ⟨rfl, _⟩ := hx
    have e : ∀ i, i < len → ((List.range len).map fun r => nats (Z r) (L r)).getD i [] = nats (Z i) (L i) := fun i hi' => by simp [hi']
    refine ⟨(List.range len).map fun r => nats (Z r) (L r), by simp, ⟨by simpa using hl, hm, fun i hi => ?_⟩, fun i hi => ?_⟩
    · have hi' : i < len := by simpa using hi
      obtain ⟨hc, hLC, hCm, hZ, hwf, hn, hs⟩ := hrow i (by omega)
      obtain ⟨b, off, rfl⟩ := addr_of (hrow 0 (by omega)).1
      have hc' := hc
      rw [Go.WideShapes.add_plain] at hc'
      rw [e i hi']
      exact ⟨b, off, _, rfl, hc', A i, C i, by rw [nats_len _ _ (by omega)], seen_ints hLC hCm hZ hwf hn fun a' ea c hcc => (hs a' ea).2 c hcc⟩
    · have hi' : i < len := by simpa using hi
      obtain ⟨hc, hLC, hCm, hZ, hwf, hn, hs⟩ := hrow i (by omega)
      rw [e i hi', nats_len _ _ (by omega)]
      rcases hA : A i with _ | ad
      · have := hn hA; omega
      · have h1 : (C i) * Try.prog.bytesOf 5 ∈ (Go.Deep.intRow (H := H) .u8 (A i) (L i) (Z i)).weights Try.prog 22 := by
          unfold Go.Deep.intRow
          rw [hA]
          simp only [DataW.weights, Try.underlying22]
          refine List.mem_cons.mpr (.inl ?_)
          have : (lits (H := H) .u8 ((Z i).take (L i))).length + (lits (H := H) .u8 ((Z i).drop (L i))).length = C i := by
            simp [lits]; omega
          rw [this]
        have h2 := weights_all (P := Try.prog) (e := 22) (ds := (List.range len).map fun r => Go.Deep.intRow (H := H) .u8 (A r) (L r) (Z r)) (List.mem_map.mpr ⟨i, List.mem_range.mpr hi', rfl⟩) _ h1
        have h3 := hz (C i * Try.prog.bytesOf 5) (by
          simp only [DataW.weights, Try.underlying30]
          exact List.mem_cons.mpr (.inr (List.mem_append.mpr (.inl h2))))
        rw [bytes8] at h3
        unfold reachBytes at h3
        omega

end Go.Proofs.Ytjefjlalebpodaa
