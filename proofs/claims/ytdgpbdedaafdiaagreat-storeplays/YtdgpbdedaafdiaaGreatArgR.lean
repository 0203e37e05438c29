/-
  What is known of an argument that is a slice of records.
-/
import Derived.Test.YtdgpbdedaafdiaaGreatArgE
import Derived.Test.YtdgpbdedaafdiaaGreatWalksB6
namespace Go.Proofs.YtdgpbdedaafdiaaGreat
open Go.ChangeShapes Go.WideShapes Go.ChangeAt Go.RowKit

theorem pick_any {α : Type} (d : α) {P : Nat → α → Prop} : ∀ n : Nat, (∀ i, i < n → ∃ f, P i f) → ∃ fs : List α, fs.length = n ∧ ∀ i, i < n → P i (fs.getD i d)
  | 0, _ => ⟨[], rfl, fun i hi => by omega⟩
  | n + 1, h => by
    obtain ⟨fs, hl, hf⟩ := pick_any d n fun i hi => h i (by omega)
    obtain ⟨f, hn⟩ := h n (by omega)
    refine ⟨fs ++ [f], by simp [hl], fun i hi => ?_⟩
    by_cases e : i = n
    · have e1 := getD_app_eq fs f d
      rw [hl] at e1
      rw [e, e1]; exact hn
    · rw [getD_app_lt fs f d i (by omega)]; exact hf i (by omega)

/-- Records that lie in old memory. -/
def OldX (B : Nat) (xs : List Rl) : Prop := ∀ x ∈ xs, x.lo = 0 ∧ x.hi = B

section
variable {H : Type} {enc : TypeId × Value → H} {W : World}

/-- An argument that is a slice of records. -/
theorem recs_arg {a : Option Addr} {len cap : Nat} {d : DataW H} {ps : List MemPlace} (h : DataW.Trod enc Tryz.prog W 0 (fun _ => true) true 61 (.slice a len cap) d ps) :
    ∃ xs : List Rl, xs.length = len ∧ RcA W a cap xs ∧ OldX W.heap.size xs := by
  obtain ⟨fuel, hf⟩ := h
  rcases Go.Deep.open_slice Tryz.underlying61 hf with ⟨hcs, _⟩ | ⟨ad, l, c, m, n, D, Pl, hcs, _, hl, hm, hmm, _, hel⟩
  · simp [Value.cells] at hcs
    obtain ⟨rfl, rfl, rfl⟩ := hcs
    exact ⟨[], rfl, RcA.nil (Nat.zero_le _), by intro x hx; simp at hx⟩
  · simp [Value.cells] at hcs
    obtain ⟨rfl, rfl, rfl⟩ := hcs
    have hmc : m = cap := by simpa using hmm
    subst hmc
    have each : ∀ i, i < len → ∃ x : Rl, (x.lo = 0 ∧ x.hi = W.heap.size ∧ x.ok W) ∧ ∀ k u, (rlcells x)[k]? = some u → W.cell? (ad.add (i * 6 + k)) = some u := by
      intro i hi
      obtain ⟨cs, hc, ht⟩ := hel i (by omega)
      rw [c_rec] at hc
      obtain ⟨r, ma, mc, ea, ec, rfl, hr⟩ := rec_cells ht
      obtain ⟨_, _, hcell⟩ := World.cells?_some hc
      refine ⟨⟨r, ma, mc, ea, ec, 0, W.heap.size⟩, ⟨rfl, rfl, hr⟩, fun k u hk => ?_⟩
      have hk8 : k < 6 := by
        have := (List.getElem?_eq_some_iff.1 hk).1
        simpa [rlcells] using this
      have := hcell k hk8
      unfold rlcells at hk
      rw [hk, Go.Deep.add_add] at this
      exact this
    obtain ⟨xs, hxs, hE⟩ := pick_any rl0 len each
    have all : ∀ x ∈ xs, x.lo = 0 ∧ x.hi = W.heap.size ∧ x.ok W := fun x hx => by
      obtain ⟨i, hi, rfl⟩ := List.mem_iff_getElem.mp hx
      have := (hE i (by omega)).1
      rwa [List.getD_eq_getElem?_getD, List.getElem?_eq_getElem hi] at this
    refine ⟨xs, hxs, ⟨by omega, hm, fun i hi => ?_, fun x hx => ?_⟩, fun x hx => ⟨(all x hx).1, (all x hx).2.1⟩⟩
    · obtain ⟨b, off, rfl⟩ : ∃ b off, ad = ⟨b, off, none⟩ := addr_of ((hE 0 (by omega)).2 0 _ rfl)
      refine ⟨b, off, rfl, fun k u hk => ?_⟩
      have := (hE i (by omega)).2 k u hk
      rw [Go.WideShapes.add_plain, ← Nat.add_assoc] at this
      exact this
    · obtain ⟨h1, h2, h3⟩ := all x hx
      rw [h1, h2]
      exact rob_old (fun w' hb => RecAt.below h3 hb) (Below.refl _ _)

end

end Go.Proofs.YtdgpbdedaafdiaaGreat
