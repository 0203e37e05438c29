/-
  The reference's Live.
-/
import Derived.Test.YtdifnipjmnbojaaWalksL4
namespace Go.Proofs.Ytdifnipjmnbojaa
open Go.RowKit






/-- Has a later entry below k this client? -/
def latB (es : List Pe) (last c : Int) (i : Nat) : Nat → Bool
  | 0 => false
  | k + 1 => latB es last c i k || (decide (i < k) && mine c last (es.getD k pe0))

theorem latB_early (es : List Pe) (last c : Int) (i : Nat) : ∀ k, k ≤ i + 1 → latB es last c i k = false
  | 0, _ => rfl
  | k + 1, h => by
    show (latB es last c i k || (decide (i < k) && mine c last (es.getD k pe0))) = false
    rw [latB_early es last c i k (by omega), decide_eq_false (by omega)]
    rfl

theorem latB_iff (es : List Pe) (last c : Int) (i : Nat) : ∀ k, latB es last c i k = true ↔ ∃ j, i < j ∧ j < k ∧ mine c last (es.getD j pe0) = true
  | 0 => ⟨fun h => (by cases h), fun ⟨j, _, h, _⟩ => (by omega)⟩
  | k + 1 => by
    show (latB es last c i k || (decide (i < k) && mine c last (es.getD k pe0))) = true ↔ _
    rw [Bool.or_eq_true, Bool.and_eq_true, decide_eq_true_iff, latB_iff es last c i k]
    constructor
    · rintro (⟨j, h1, h2, h3⟩ | ⟨h1, h2⟩)
      · exact ⟨j, h1, by omega, h3⟩
      · exact ⟨k, h1, by omega, h2⟩
    · rintro ⟨j, h1, h2, h3⟩
      by_cases e : j = k
      · subst e; exact .inr ⟨h1, h3⟩
      · exact .inl ⟨j, h1, by omega, h3⟩

/-- Is the entry at i the reference's current Put? -/
def rput (es : List Pe) (last : Int) (i : Nat) : Prop :=
  (ansF es (fndU es last (kb (es.getD i pe0)) es.length)).2 = true ∧ (ansF es (fndU es last (kb (es.getD i pe0)) es.length)).1.op = 1 ∧ (ansF es (fndU es last (kb (es.getD i pe0)) es.length)).1.seq = (es.getD i pe0).seq ∧ (es.getD i pe0).op = 1

theorem ris_inj {es : List Pe} (h : Ris es) {i j : Nat} (hi : i < es.length) (hj : j < es.length) (e : (es.getD i pe0).seq = (es.getD j pe0).seq) : i = j := by
  rw [List.getD_eq_getElem?_getD, List.getElem?_eq_getElem hi, List.getD_eq_getElem?_getD, List.getElem?_eq_getElem hj] at e
  have e' : es[i].seq = es[j].seq := e
  rcases Nat.lt_trichotomy i j with h1 | h1 | h1
  · have := (List.pairwise_iff_getElem.1 h) i j hi hj h1; omega
  · exact h1
  · have := (List.pairwise_iff_getElem.1 h) j i hj hi h1; omega

theorem rput_iff {es : List Pe} {last : Int} (h : Ris es) {i : Nat} (hi : i < es.length) (hs : (es.getD i pe0).seq ≤ last) : rput es last i ↔ isPut es last i = true := by
  unfold rput isPut
  rw [decide_eq_true_iff, curU_some]
  constructor
  · rintro ⟨h1, h2, h3, h4⟩
    cases hf : fndU es last (kb (es.getD i pe0)) es.length with
    | none => rw [hf] at h1; cases h1
    | some j =>
      rw [hf] at h3
      have hj := (lastU_some hf).1
      have : j = i := ris_inj h hj hi h3
      subst this
      exact ⟨rfl, h4⟩
  · rintro ⟨h1, h2⟩
    rw [h1]
    exact ⟨rfl, h2, rfl, h2⟩

theorem isPut_seq {es : List Pe} {last : Int} {i : Nat} (h : isPut es last i = true) : (es.getD i pe0).seq ≤ last := by
  unfold isPut at h
  rw [decide_eq_true_iff, curU_some] at h
  exact (hit_iff.1 (lastU_some h.1).2.1).2.1

theorem isNew_iff' {es : List Pe} {last : Int} {i : Nat} (hi : i < es.length) : isNew es last i = true ↔ (es.getD i pe0).seq ≤ last ∧ latB es last (es.getD i pe0).client i es.length = false := by
  unfold isNew
  rw [decide_eq_true_iff]
  constructor
  · intro h
    obtain ⟨_, h2, h3⟩ := lastU_some h
    refine ⟨(mine_iff.1 h2).1, ?_⟩
    cases hl : latB es last (es.getD i pe0).client i es.length with
    | false => rfl
    | true =>
      obtain ⟨j, h4, h5, h6⟩ := (latB_iff _ _ _ _ _).1 hl
      rw [h3 j h4 h5] at h6
      cases h6
  · rintro ⟨h1, h2⟩
    refine lastU_is hi (mine_iff.2 ⟨h1, rfl⟩) (fun j h3 h4 => ?_)
    cases hm : mine (es.getD i pe0).client last (es.getD j pe0) with
    | false => rfl
    | true =>
      have := (latB_iff es last (es.getD i pe0).client i es.length).2 ⟨j, h3, h4, hm⟩
      rw [h2] at this
      cases this

/-- What the entry at k adds: by the reference's tests. -/
theorem liveU_skip {es : List Pe} {last : Int} {k : Nat} (hs : last < (es.getD k pe0).seq) (hk : k < es.length) : liveU es last (k + 1) = liveU es last k := by
  have h1 : isPut es last k = false := by
    cases h : isPut es last k with
    | false => rfl
    | true => have := isPut_seq h; omega
  have h2 : isNew es last k = false := by
    cases h : isNew es last k with
    | false => rfl
    | true => have := ((isNew_iff' hk).1 h).1; omega
  rw [liveU_succ, h1, h2]
  simp

theorem liveU_rput {es : List Pe} {last : Int} {k : Nat} (h : Ris es) (hs : (es.getD k pe0).seq ≤ last) (hk : k < es.length) (hp : rput es last k) : liveU es last (k + 1) = liveU es last k ++ [es.getD k pe0] := by
  have h1 := (rput_iff h hk hs).1 hp
  rw [liveU_succ, h1, liveAt_put h1]
  simp

theorem liveU_new {es : List Pe} {last : Int} {k : Nat} (h : Ris es) (hs : (es.getD k pe0).seq ≤ last) (hk : k < es.length) (hp : ¬ rput es last k) (hl : latB es last (es.getD k pe0).client k es.length = false) : liveU es last (k + 1) = liveU es last k ++ [bareE (es.getD k pe0)] := by
  have h1 : isPut es last k = false := by
    cases h' : isPut es last k with
    | false => rfl
    | true => exact absurd ((rput_iff h hk hs).2 h') hp
  have h2 := (isNew_iff' (last := last) hk).2 ⟨hs, hl⟩
  rw [liveU_succ, h2, liveAt_bare h1]
  simp

theorem liveU_old {es : List Pe} {last : Int} {k : Nat} (h : Ris es) (hs : (es.getD k pe0).seq ≤ last) (hk : k < es.length) (hp : ¬ rput es last k) (hl : latB es last (es.getD k pe0).client k es.length = true) : liveU es last (k + 1) = liveU es last k := by
  have h1 : isPut es last k = false := by
    cases h' : isPut es last k with
    | false => rfl
    | true => exact absurd ((rput_iff h hk hs).2 h') hp
  have h2 : isNew es last k = false := by
    cases h' : isNew es last k with
    | false => rfl
    | true => have := ((isNew_iff' hk).1 h').2; rw [hl] at this; cases this
  rw [liveU_succ, h1, h2]
  simp

theorem live_len (es : List Pe) (last : Int) : ∀ k, (liveU es last k).length ≤ k
  | k => by
    unfold liveU placesU
    rw [List.length_map]
    exact Nat.le_trans (List.length_filter_le _ _) (by simp)

end Go.Proofs.Ytdifnipjmnbojaa
