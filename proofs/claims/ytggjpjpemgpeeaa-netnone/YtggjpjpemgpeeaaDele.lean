/-
  slices.Delete of one row out of a slice of rows of the call's own.
-/
import Derived.Test.YtggjpjpemgpeeaaRws
import Derived.Deep.RegionLaw
import Derived.Lib.SliceRun
namespace Go.Proofs.Ytggjpjpemgpeeaa
open Go.RowKit

theorem owns_setCells {base g n cap : Nat} {e : TypeId} : ∀ (vs : List Value) (o : Nat) (w : World) (xs : List Value), w.ownsRow base e 1 (.slice (some ⟨g, 0, none⟩) n cap) n xs → o + vs.length ≤ n →
    (w.setCells g o vs).ownsRow base e 1 (.slice (some ⟨g, 0, none⟩) n cap) n (xs.take o ++ vs ++ xs.drop (o + vs.length)) ∧ Chg [g] w (w.setCells g o vs)
  | [], o, w, xs, h, _ => by
    refine ⟨?_, Chg.refl _ _⟩
    show w.ownsRow _ _ _ _ _ (xs.take o ++ [] ++ xs.drop (o + 0))
    rw [List.append_nil, Nat.add_zero, List.take_append_drop]
    exact h
  | v :: r, o, w, xs, h, hl => by
    have hlen := h.1
    simp only [List.length_cons] at hl
    have h1 := World.ownsRow.stored h o v
    have ih := owns_setCells r (o + 1) (w.setCell ⟨g, o, none⟩ v) (xs.set o v) h1.1 (by omega)
    refine ⟨?_, (Chg.of_grown h1.2).trans ih.2⟩
    have e : (xs.set o v).take (o + 1) ++ r ++ (xs.set o v).drop (o + 1 + r.length) = xs.take o ++ v :: r ++ xs.drop (o + (v :: r).length) := by
      rw [List.drop_set_of_lt (by omega), List.take_add_one, List.take_set_of_le (by omega), List.getElem?_set_self (by omega)]
      simp
      omega
    rw [← e]
    exact ih.1

set_option maxRecDepth 100000 in
set_option maxHeartbeats 1000000 in
theorem del_raw (g n cap i j : Nat) (f : Nat → Value) (w : World) (hc : ∀ k, k < n → w.cell? ⟨g, k, none⟩ = some (f k)) (hf : ∀ k, w.frozen? ⟨g, k, none⟩ = false) (h1 : ∀ k, k < n → (f k).oneCell' = true)
    (hij : i < j) (hj : j ≤ n) (hn : n ≤ cap) (hm : cap ≤ maxLen) :
    Calls Try.prog 69 #[.slice (some ⟨g, 0, none⟩) n cap, .int .i64 (i : Int), .int .i64 (j : Int)] w fun e w' =>
      e = .returned (.slice (some ⟨g, 0, none⟩) (i + (n - j)) cap) ∧ w' = (w.drew.setCells g i ((List.range (n - j)).map fun t => f (j + t))).setCells g (i + (n - j)) (List.replicate (n - (i + (n - j))) (.slice none 0 0)) := by
  have hm' : cap ≤ 9223372036854775807 := by unfold maxLen at hm; omega
  clear hm
  obtain ⟨news, hnews⟩ : ∃ news, news = (List.range (n - j)).map fun t => f (j + t) := ⟨_, rfl⟩
  have hlen : news.length = n - j := by rw [hnews]; simp
  have hget : ∀ t, t < n - j → news[t]? = some (f (j + t)) := fun t ht => by rw [hnews]; simp [ht]
  obtain ⟨A, hA, hsrc⟩ : ∃ A : Addr, (if cap = j then (some ⟨g, 0, none⟩ : Option Addr) else some ⟨g, j, none⟩) = some A ∧ Hid (∀ t u, news[t]? = some u → w.drew.cell? (A.add t) = some u) := by
    by_cases h : cap = j
    · refine ⟨⟨g, 0, none⟩, by simp [h], fun t u hu => ?_⟩
      have h0 : news.length = 0 := by rw [hlen]; omega
      rw [List.length_eq_zero_iff.1 h0] at hu
      simp at hu
    · refine ⟨⟨g, j, none⟩, by simp [h], fun t u hu => ?_⟩
      have ht : t < n - j := by
        have := (List.getElem?_eq_some_iff.1 hu).1
        rwa [hlen] at this
      rw [hget t ht] at hu
      rw [Go.WideShapes.add_plain]
      exact (hc (j + t) (by omega)).trans hu
  have s1 : Hid (news.length = (n - j) * 1) := by rw [Nat.mul_one]; exact hlen
  have s2 : Hid (∀ u ∈ news, u.oneCell' = true) := by
    intro u hu
    rw [hnews] at hu
    obtain ⟨t, ht, rfl⟩ := List.mem_map.1 hu
    have := List.mem_range.1 ht
    exact h1 _ (by omega)
  have s3 : Hid (∀ t, t < news.length → (w.drew.cell? ⟨g, 0 + i * 1 + t, none⟩).isSome = true ∧ w.drew.frozen? ⟨g, 0 + i * 1 + t, none⟩ = false) := by
    intro t ht
    rw [hlen] at ht
    rw [show 0 + i * 1 + t = i + t by omega]
    exact ⟨by show (w.cell? _).isSome = true; rw [hc (i + t) (by omega)]; rfl, hf _⟩
  obtain ⟨W1, hW1⟩ : ∃ W1, W1 = w.drew.setCells g i news := ⟨_, rfl⟩
  have hW1c : ∀ k, k < n → (W1.cell? ⟨g, k, none⟩).isSome = true := fun k hk => by
    rw [hW1]
    have h0 : ∀ q, q < n → (w.drew.cell? ⟨g, q, none⟩).isSome = true := fun q hq => by show (w.cell? _).isSome = true; rw [hc q hq]; rfl
    by_cases hr : i ≤ k ∧ k < i + news.length
    · have := World.cell?_setCells_in g news i w.drew (fun q hq => h0 (i + q) (by omega)) (k - i) (by omega)
      rw [show i + (k - i) = k by omega] at this
      rw [this]; rfl
    · rw [World.cell?_setCells_out g news i w.drew ⟨g, k, none⟩ (fun _ _ => by show k < i ∨ i + news.length ≤ k; omega)]
      exact h0 k hk
  have hW1f : ∀ k, W1.frozen? ⟨g, k, none⟩ = false := fun k => by rw [hW1, World.frozen?_setCells]; exact hf k
  have hcl : ∀ ty, (Builtin.clear_ #[96] ty #[.slice (some ⟨g, i + (n - j), none⟩) (n - (i + (n - j))) (cap - (i + (n - j)))]).run Try.prog W1 = .ok (.tuple #[]) (W1.setCells g (i + (n - j)) (List.replicate (n - (i + (n - j))) (.slice none 0 0))) :=
    fun ty => Lib.run_clear_slice W1 _ _ ty (.slice none 0 0) Try.underlying96 (fun w => by kernel_rfl) rfl rfl g (i + (n - j)) _ _ (by omega) (fun t ht => hW1c _ (by omega)) (fun t ht => hW1f _)
  have X : Hid (W1 = w.drew.setCells g i news) := hW1
  have XN : Hid (news = (List.range (n - j)).map fun t => f (j + t)) := hnews
  have hW : Hid (W1 = w.drew.setCells g (0 + i * 1) news) := by rw [show 0 + i * 1 = i by omega]; exact hW1
  have hic : i ≤ cap := by omega
  have hjc : j ≤ cap := by omega
  have hne : i ≠ j := by omega
  clear hW1 hc hf h1 hget hnews hlen hW1c hW1f
  go_enter Try.func69, Try.ntmps69
  go_wp2_with fail
  go_region_law (refine step_append_room rfl (.tmp 22) (.tmp 25) 96 rfl 23 _ 1 Try.underlying96 rfl rfl g 0 i cap (by simp [Act.eval, Act.put]) A (n - j) (cap - j) news (by simp [Act.eval, Act.put]) s1.out hsrc.out s2.out (by omega) s3.out ?_; rw [← hW.out])
  go_wp2
  go_ret
  refine ⟨rfl, ?_⟩
  rw [← XN.out, ← X.out]

end Go.Proofs.Ytggjpjpemgpeeaa
