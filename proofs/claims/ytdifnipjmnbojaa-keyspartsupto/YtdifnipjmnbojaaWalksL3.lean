/-
  The bytes of many entries, by the reference; SameAll; the entries whose numbers rise (rising).
-/
import Derived.Test.YtdifnipjmnbojaaSameA
import Derived.Test.YtdifnipjmnbojaaWalksL2
namespace Go.Proofs.Ytdifnipjmnbojaa
open Go.RowKit







/-! ## rising -/

/-- The entries whose numbers rise, of the first k; at most 60. -/
def risU (es : List Pe) : Nat → List Pe
  | 0 => []
  | k + 1 => if (risU es k).length < 60 ∧ (risU es k = [] ∨ ((risU es k).getD ((risU es k).length - 1) pe0).seq < (es.getD k pe0).seq) then risU es k ++ [es.getD k pe0] else risU es k

theorem risU_yes {es : List Pe} {k : Nat} (h : (risU es k).length < 60 ∧ (risU es k = [] ∨ ((risU es k).getD ((risU es k).length - 1) pe0).seq < (es.getD k pe0).seq)) : risU es (k + 1) = risU es k ++ [es.getD k pe0] := by
  conv => lhs; unfold risU
  rw [if_pos h]
theorem risU_no {es : List Pe} {k : Nat} (h : ¬((risU es k).length < 60 ∧ (risU es k = [] ∨ ((risU es k).getD ((risU es k).length - 1) pe0).seq < (es.getD k pe0).seq))) : risU es (k + 1) = risU es k := by
  conv => lhs; unfold risU
  rw [if_neg h]

theorem risU_len (es : List Pe) : ∀ k, (risU es k).length ≤ 60
  | 0 => Nat.zero_le _
  | k + 1 => by
    have ih := risU_len es k
    by_cases h : (risU es k).length < 60 ∧ (risU es k = [] ∨ ((risU es k).getD ((risU es k).length - 1) pe0).seq < (es.getD k pe0).seq)
    · rw [risU_yes h, List.length_append]
      have := h.1
      simp
      omega
    · rw [risU_no h]; exact ih

theorem risU_full (es : List Pe) {k : Nat} (h : (risU es k).length = 60) : ∀ j, risU es (k + j) = risU es k
  | 0 => rfl
  | j + 1 => by
    have ih := risU_full es h j
    rw [← ih]
    have h1 : (risU es (k + j)).length = 60 := by rw [ih]; exact h
    exact risU_no (k := k + j) (fun h' => by omega)

theorem risU_mem (es : List Pe) : ∀ k, k ≤ es.length → ∀ e ∈ risU es k, e ∈ es
  | 0, _, e, he => by simp [risU] at he
  | k + 1, hk, e, he => by
    by_cases h : (risU es k).length < 60 ∧ (risU es k = [] ∨ ((risU es k).getD ((risU es k).length - 1) pe0).seq < (es.getD k pe0).seq)
    · rw [risU_yes h] at he
      rcases List.mem_append.mp he with he | he
      · exact risU_mem es k (by omega) e he
      · rw [List.mem_singleton.mp he]; exact getD_mem es k pe0 (by omega)
    · rw [risU_no h] at he
      exact risU_mem es k (by omega) e he

/-- Numbers rise. -/
def Ris (es : List Pe) : Prop := es.Pairwise fun a b => a.seq < b.seq

theorem last_getD (es : List Pe) (h : es ≠ []) : ∀ e ∈ es, Ris es → e = es.getD (es.length - 1) pe0 ∨ e.seq < (es.getD (es.length - 1) pe0).seq := fun e he hr => by
  obtain ⟨i, hi, rfl⟩ := List.mem_iff_getElem.mp he
  have hl : es.length - 1 < es.length := by have := List.length_pos_iff.mpr h; omega
  rw [List.getD_eq_getElem?_getD, List.getElem?_eq_getElem hl]
  by_cases e : i = es.length - 1
  · left; simp [e]
  · right
    exact (List.pairwise_iff_getElem.1 hr) i (es.length - 1) hi hl (by omega)

theorem risU_ris (es : List Pe) : ∀ k, Ris (risU es k)
  | 0 => List.Pairwise.nil
  | k + 1 => by
    have ih := risU_ris es k
    by_cases h : (risU es k).length < 60 ∧ (risU es k = [] ∨ ((risU es k).getD ((risU es k).length - 1) pe0).seq < (es.getD k pe0).seq)
    · rw [risU_yes h]
      refine List.pairwise_append.2 ⟨ih, by simp, fun a ha b hb => ?_⟩
      rw [List.mem_singleton.mp hb]
      rcases h.2 with h0 | h0
      · rw [h0] at ha; simp at ha
      · rcases last_getD _ (by intro e; rw [e] at ha; simp at ha) a ha ih with e | e
        · rw [e]; exact h0
        · omega
    · rw [risU_no h]; exact ih

end Go.Proofs.Ytdifnipjmnbojaa
