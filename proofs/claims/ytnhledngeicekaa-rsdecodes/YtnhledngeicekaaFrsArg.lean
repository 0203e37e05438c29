/-
  What is known of an argument that is a slice of fragments: 'FrsAt'.
-/
import Derived.Test.YtnhledngeicekaaFrs
namespace Go.Proofs.Ytnhledngeicekaa
open Go.ChangeShapes Go.WideShapes Go.ChangeAt Go.RowKit

/-- The cell of a slice of bytes. -/
theorem seen_cell {H : Type} {enc : TypeId × Value → H} {W : World} {fuel : Nat} {v : Value} {x : DataW H × List MemPlace} (hf : DataW.trod enc Try.prog W 0 (fun _ => true) true fuel 28 [v] = some x) :
    ∃ (a : Option Addr) (cap : Nat) (qs : List Nat), v = .slice a qs.length cap ∧ SeenAt W a cap qs := by
  rcases open_ints Try.underlying28 Try.underlying5 (by kernel_rfl) hf with ⟨hcs, _⟩ | ⟨x, l, c, zs, hcs, _, hl, hm, hz, _, hcell, hwz⟩
  · simp at hcs
    exact ⟨none, 0, [], hcs, SeenAt.nil (Nat.zero_le _)⟩
  · simp at hcs
    have hz' : zs.length = c := by simpa using hz
    exact ⟨some x, c, nats zs l, by rw [nats_len _ _ (by omega)]; exact hcs, seen_ints hl hm hz' hwz (fun e => by cases e) fun a' e i hi => by cases e; exact hcell i (by omega)⟩

theorem pick_all {P : Nat → Fr → Prop} : ∀ n : Nat, (∀ i, i < n → ∃ f, P i f) → ∃ fs : List Fr, fs.length = n ∧ ∀ i, i < n → P i (fs.getD i fr0)
  | 0, _ => ⟨[], rfl, fun i hi => by omega⟩
  | n + 1, h => by
    obtain ⟨fs, hl, hf⟩ := pick_all n fun i hi => h i (by omega)
    obtain ⟨f, hn⟩ := h n (by omega)
    refine ⟨fs ++ [f], by simp [hl], fun i hi => ?_⟩
    by_cases e : i = n
    · have e1 := getD_app_eq fs f fr0
      rw [hl] at e1
      rw [e, e1]; exact hn
    · rw [getD_app_lt fs f fr0 i (by omega)]; exact hf i (by omega)

/-- An argument that is a slice of fragments. -/
theorem frs_arg {H : Type} {enc : TypeId × Value → H} {W : World} {a : Option Addr} {len cap : Nat} {d : DataW H} {ps : List MemPlace} (h : DataW.Trod enc Try.prog W 0 (fun _ => true) true 36 (.slice a len cap) d ps) :
    ∃ fs : List Fr, fs.length = len ∧ FrsAt W a cap fs := by
  obtain ⟨fuel, hf⟩ := h
  rcases Go.Deep.open_slice_pairs Try.underlying36 Try.underlying38 (by kernel_rfl) rfl rfl (by kernel_rfl) (by kernel_rfl) hf with ⟨hcs, _⟩ | ⟨x, l, c, m, n, V0, V1, D0, D1, P0, P1, hcs, _, hl, hm, hmm, _, hel⟩
  · simp [Value.cells] at hcs
    obtain ⟨rfl, rfl, rfl⟩ := hcs
    exact ⟨[], rfl, FrsAt.nil (Nat.zero_le _)⟩
  · simp [Value.cells] at hcs
    obtain ⟨rfl, rfl, rfl⟩ := hcs
    have hmc : m = cap := by simpa using hmm
    subst hmc
    have each : ∀ i, i < len → ∃ f : Fr, W.cell? (x.add (i * 2)) = some (.int .i64 f.pos) ∧ W.cell? (x.add (i * 2 + 1)) = some (.slice f.loc f.data.length f.cap) ∧ SeenAt W f.loc f.cap f.data ∧ (Lit.int .i64 f.pos).wf = true := by
      intro i hi
      obtain ⟨h0, h1, t0, t1⟩ := hel i (by omega)
      obtain ⟨z, e0, _, hw⟩ := DataW.trod_int Try.underlying3 t0
      obtain ⟨ra, rc, qs, e1, hs⟩ := seen_cell t1
      have e0' : V0 i = .int .i64 z := by simpa using e0
      exact ⟨⟨z, ra, rc, qs⟩, by rw [h0, e0'], by rw [h1, e1], hs, hw⟩
    obtain ⟨fs, hfl, hfe⟩ := pick_all len each
    refine ⟨fs, hfl, ⟨by omega, hm, fun i hi => ?_, fun f hf => ?_⟩⟩
    · obtain ⟨g0, g1, g2, _⟩ := hfe i (by omega)
      have hx : ∃ b off, x = ⟨b, off, none⟩ := by
        obtain ⟨g0', _⟩ := hfe 0 (by omega)
        exact addr_of (by simpa using g0')
      obtain ⟨b, off, rfl⟩ := hx
      rw [Go.WideShapes.add_plain] at g0 g1
      exact ⟨b, off, rfl, g0, by rw [← Nat.add_assoc] at g1; exact g1, g2⟩
    · obtain ⟨i, hi, e⟩ := List.mem_iff_getElem.mp hf
      have := (hfe i (by omega)).2.2.2
      rw [List.getD_eq_getElem?_getD, List.getElem?_eq_getElem hi] at this
      have e2 : (some (fs[i])).getD fr0 = f := e
      rw [e2] at this
      exact this

end Go.Proofs.Ytnhledngeicekaa
