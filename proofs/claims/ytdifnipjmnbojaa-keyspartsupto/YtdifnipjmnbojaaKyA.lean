/-
  The entries that count tell the same keys and last numbers as all do; what counts of them is they.
-/
import Derived.Test.YtdifnipjmnbojaaWalksL5
namespace Go.Proofs.Ytdifnipjmnbojaa

/-- Of the first k entries: no number beyond last; each client's own numbers rise, from 1 on. -/
structure UpK (es : List Pe) (last : Int) (k : Nat) : Prop where
  seq : ∀ i, i < k → (es.getD i pe0).seq ≤ last
  num : ∀ i, i < k → 1 ≤ (es.getD i pe0).num
  up : ∀ i j, i < j → j < k → (es.getD i pe0).client = (es.getD j pe0).client → (es.getD i pe0).num < (es.getD j pe0).num

theorem upK_zero (es : List Pe) (last : Int) : UpK es last 0 := ⟨fun _ h => absurd h (Nat.not_lt_zero _), fun _ h => absurd h (Nat.not_lt_zero _), fun _ _ _ h => absurd h (Nat.not_lt_zero _)⟩

theorem UpK.less {es : List Pe} {last : Int} {k : Nat} (h : UpK es last (k + 1)) : UpK es last k := ⟨fun i hi => h.seq i (by omega), fun i hi => h.num i (by omega), fun i j h1 h2 => h.up i j h1 (by omega)⟩

theorem UpK.more {es : List Pe} {last : Int} {k : Nat} (h : UpK es last k) (h1 : (es.getD k pe0).seq ≤ last) (h2 : 1 ≤ (es.getD k pe0).num) (h3 : ∀ i, i < k → (es.getD i pe0).client = (es.getD k pe0).client → (es.getD i pe0).num < (es.getD k pe0).num) : UpK es last (k + 1) := by
  refine ⟨fun i hi => ?_, fun i hi => ?_, fun i j hij hj => ?_⟩
  · by_cases e : i = k
    · rw [e]; exact h1
    · exact h.seq i (by omega)
  · by_cases e : i = k
    · rw [e]; exact h2
    · exact h.num i (by omega)
  · by_cases e : j = k
    · rw [e] at hij ⊢; exact h3 i hij
    · exact h.up i j hij (by omega)

theorem numU_new {es : List Pe} {last : Int} (c : Int) : ∀ {k : Nat}, UpK es last k → (numU es c k).1 = match newU es last k c with | some i => (es.getD i pe0).num | none => 0
  | 0, _ => rfl
  | k + 1, h => by
    have ih := numU_new c (k := k) h.less
    rw [newU_step]
    by_cases hc : (es.getD k pe0).client = c
    · rw [if_pos ⟨h.seq k (Nat.lt_succ_self k), hc⟩]
      have hlt : (numU es c k).1 < (es.getD k pe0).num := by
        rw [ih]
        cases hn : newU es last k c with
        | none => have := h.num k (Nat.lt_succ_self k); show (0 : Int) < _; omega
        | some i => exact h.up i k (newU_lt hn) (Nat.lt_succ_self k) (by rw [newU_client hn, hc])
      rw [numU_yes ⟨hc, hlt⟩]
    · rw [if_neg (fun h => hc h.2), numU_no (fun h => hc h.1)]
      exact ih

/-- The place of the j-th entry that counts. -/
def plU (es : List Pe) (last : Int) (j : Nat) : Nat := (placesU es last es.length).getD j 0

theorem live_length (es : List Pe) (last : Int) (k : Nat) : (liveU es last k).length = (placesU es last k).length := by unfold liveU; rw [List.length_map]

theorem plU_mem {es : List Pe} {last : Int} {j : Nat} (h : j < (liveU es last es.length).length) : plU es last j < es.length ∧ (isPut es last (plU es last j) = true ∨ isNew es last (plU es last j) = true) := by
  rw [live_length] at h
  refine (placesU_mem es last es.length _).1 ?_
  unfold plU
  rw [List.getD_eq_getElem?_getD, List.getElem?_eq_getElem h]
  exact List.getElem_mem h

theorem plU_lt {es : List Pe} {last : Int} {i j : Nat} (hij : i < j) (h : j < (liveU es last es.length).length) : plU es last i < plU es last j := by
  rw [live_length] at h
  unfold plU
  rw [List.getD_eq_getElem?_getD, List.getElem?_eq_getElem (by omega), List.getD_eq_getElem?_getD, List.getElem?_eq_getElem h]
  exact (List.pairwise_iff_getElem.1 (placesU_strict es last es.length)) i j (by omega) h hij

theorem plU_inj {es : List Pe} {last : Int} {i j : Nat} (hi : i < (liveU es last es.length).length) (hj : j < (liveU es last es.length).length) (e : plU es last i = plU es last j) : i = j := by
  rcases Nat.lt_trichotomy i j with h | h | h
  · have := plU_lt h hj; omega
  · exact h
  · have := plU_lt h hi; omega

theorem plU_ex {es : List Pe} {last : Int} {i : Nat} (hi : i < es.length) (h : isPut es last i = true ∨ isNew es last i = true) : ∃ j, j < (liveU es last es.length).length ∧ plU es last j = i := by
  obtain ⟨j, hj, e⟩ := List.mem_iff_getElem.1 ((placesU_mem es last es.length i).2 ⟨hi, h⟩)
  refine ⟨j, by rw [live_length]; exact hj, ?_⟩
  unfold plU
  rw [List.getD_eq_getElem?_getD, List.getElem?_eq_getElem hj]
  exact e

theorem live_getD {es : List Pe} {last : Int} {j : Nat} (h : j < (liveU es last es.length).length) : (liveU es last es.length).getD j pe0 = liveAt es last (plU es last j) := by
  have h' := h
  rw [live_length] at h'
  unfold plU
  rw [List.getD_eq_getElem?_getD, List.getElem?_eq_getElem h, List.getD_eq_getElem?_getD, List.getElem?_eq_getElem h']
  exact List.getElem_map (liveAt es last) (l := placesU es last es.length) (h := h)

theorem liveAt_seq (es : List Pe) (last : Int) (i : Nat) : (liveAt es last i).seq = (es.getD i pe0).seq := by unfold liveAt; split <;> rfl
theorem liveAt_client (es : List Pe) (last : Int) (i : Nat) : (liveAt es last i).client = (es.getD i pe0).client := by unfold liveAt; split <;> rfl
theorem liveAt_num (es : List Pe) (last : Int) (i : Nat) : (liveAt es last i).num = (es.getD i pe0).num := by unfold liveAt; split <;> rfl

theorem liveAt_mine (es : List Pe) (last c : Int) (i : Nat) : mine c last (liveAt es last i) = mine c last (es.getD i pe0) := by unfold mine; rw [liveAt_seq, liveAt_client]

theorem isPut_hit {es : List Pe} {last : Int} {i : Nat} (h : isPut es last i = true) : (es.getD i pe0).seq ≤ last ∧ (es.getD i pe0).op = 1 ∧ i < es.length := by
  unfold isPut at h
  rw [decide_eq_true_iff] at h
  exact ⟨(hit_iff.1 (lastU_some (curU_some.1 h).1).2.1).2.1, (curU_some.1 h).2, curU_lt h⟩

theorem liveAt_hit {es : List Pe} {last : Int} {i : Nat} {key : List UInt8} : hit key last (liveAt es last i) = true ↔ isPut es last i = true ∧ kb (es.getD i pe0) = key := by
  cases h : isPut es last i with
  | true =>
    rw [liveAt_put h, hit_iff]
    exact ⟨fun h' => ⟨rfl, h'.1⟩, fun h' => ⟨h'.2, (isPut_hit h).1, .inl (isPut_hit h).2.1⟩⟩
  | false =>
    rw [liveAt_bare h, hit_iff]
    constructor
    · rintro ⟨_, _, h1 | h1⟩ <;> cases h1
    · rintro ⟨h1, _⟩; cases h1

theorem live_fnd {es : List Pe} {last : Int} {key : List UInt8} {i : Nat} (h : curU es last es.length key = some i) : ∃ j, j < (liveU es last es.length).length ∧ plU es last j = i ∧ fndU (liveU es last es.length) last key (liveU es last es.length).length = some j := by
  have hp := (isPut_iff es last i).2 ⟨key, h⟩
  obtain ⟨j, hj, e⟩ := plU_ex (curU_lt h) (.inl hp)
  refine ⟨j, hj, e, lastU_is hj ?_ (fun j' h1 h2 => ?_)⟩
  · rw [live_getD hj, e]
    exact liveAt_hit.2 ⟨hp, curU_key h⟩
  · cases hh : hit key last ((liveU es last es.length).getD j' pe0) with
    | false => rfl
    | true =>
      rw [live_getD h2] at hh
      obtain ⟨h3, h4⟩ := liveAt_hit.1 hh
      unfold isPut at h3
      rw [decide_eq_true_iff, h4, h] at h3
      cases h3
      have := plU_inj hj h2 e
      omega

theorem live_fnd_none {es : List Pe} {last : Int} {key : List UInt8} (h : curU es last es.length key = none) : fndU (liveU es last es.length) last key (liveU es last es.length).length = none :=
  lastU_not fun j hj => by
    cases hh : hit key last ((liveU es last es.length).getD j pe0) with
    | false => rfl
    | true =>
      rw [live_getD hj] at hh
      obtain ⟨h3, h4⟩ := liveAt_hit.1 hh
      unfold isPut at h3
      rw [decide_eq_true_iff, h4, h] at h3
      cases h3

/-- What Find answers of the entries that count. -/
theorem live_ans (es : List Pe) (last : Int) (key : List UInt8) : ansF (liveU es last es.length) (fndU (liveU es last es.length) last key (liveU es last es.length).length) = ansF es (curU es last es.length key) := by
  cases h : curU es last es.length key with
  | none => rw [live_fnd_none h]; rfl
  | some i =>
    obtain ⟨j, hj, e, hf⟩ := live_fnd h
    rw [hf]
    show ((liveU es last es.length).getD j pe0, true) = (es.getD i pe0, true)
    rw [live_getD hj, e, liveAt_put ((isPut_iff es last i).2 ⟨key, h⟩)]

theorem live_cur (es : List Pe) (last : Int) (key : List UInt8) : (curU (liveU es last es.length) last (liveU es last es.length).length key).isSome = (curU es last es.length key).isSome := by
  cases h : curU es last es.length key with
  | none =>
    have := live_fnd_none h
    unfold curU
    rw [this]
  | some i =>
    obtain ⟨j, hj, e, hf⟩ := live_fnd h
    have hp := (isPut_iff es last i).2 ⟨key, h⟩
    have : curU (liveU es last es.length) last (liveU es last es.length).length key = some j := curU_some.2 ⟨hf, by rw [live_getD hj, e, liveAt_put hp]; exact (isPut_hit hp).2.1⟩
    rw [this]
    rfl

theorem live_new {es : List Pe} {last c : Int} {i : Nat} (h : newU es last es.length c = some i) : ∃ j, j < (liveU es last es.length).length ∧ plU es last j = i ∧ newU (liveU es last es.length) last (liveU es last es.length).length c = some j := by
  obtain ⟨j, hj, e⟩ := plU_ex (newU_lt h) (.inr ((isNew_iff es last i).2 ⟨c, h⟩))
  obtain ⟨_, h2, h3⟩ := lastU_some h
  refine ⟨j, hj, e, lastU_is hj ?_ (fun j' h1 h4 => ?_)⟩
  · rw [live_getD hj, e, liveAt_mine]; exact h2
  · rw [live_getD h4, liveAt_mine]
    exact h3 _ (by rw [← e]; exact plU_lt h1 h4) (plU_mem h4).1

theorem live_new_none {es : List Pe} {last c : Int} (h : newU es last es.length c = none) : newU (liveU es last es.length) last (liveU es last es.length).length c = none :=
  lastU_not fun j hj => by
    rw [live_getD hj, liveAt_mine]
    exact lastU_none h _ (plU_mem hj).1

theorem live_upTo {es : List Pe} {last : Int} (h : UpK es last es.length) : UpK (liveU es last es.length) last (liveU es last es.length).length :=
  ⟨fun i hi => by rw [live_getD hi, liveAt_seq]; exact h.seq _ (plU_mem hi).1,
   fun i hi => by rw [live_getD hi, liveAt_num]; exact h.num _ (plU_mem hi).1,
   fun i j hij hj => by
    rw [live_getD (by omega), live_getD hj, liveAt_client, liveAt_client, liveAt_num, liveAt_num]
    exact h.up _ _ (plU_lt hij hj) (plU_mem hj).1⟩

/-- The last numbers are the same. -/
theorem live_num {es : List Pe} {last : Int} (h : UpK es last es.length) (c : Int) : (numU (liveU es last es.length) c (liveU es last es.length).length).1 = (numU es c es.length).1 := by
  rw [numU_new c (live_upTo h), numU_new c h]
  cases hn : newU es last es.length c with
  | none => rw [live_new_none hn]
  | some i =>
    obtain ⟨j, hj, e, hf⟩ := live_new hn
    rw [hf]
    show ((liveU es last es.length).getD j pe0).num = (es.getD i pe0).num
    rw [live_getD hj, e, liveAt_num]

theorem live_isPut {es : List Pe} {last : Int} {j : Nat} (hj : j < (liveU es last es.length).length) : isPut (liveU es last es.length) last j = isPut es last (plU es last j) := by
  cases h : isPut es last (plU es last j) with
  | true =>
    have h' := h
    unfold isPut at h'
    rw [decide_eq_true_iff] at h'
    obtain ⟨j', hj', e, hf⟩ := live_fnd h'
    obtain rfl := plU_inj hj' hj e
    unfold isPut
    rw [decide_eq_true_iff, live_getD hj, liveAt_put h]
    exact curU_some.2 ⟨hf, by rw [live_getD hj, liveAt_put h]; exact (isPut_hit h).2.1⟩
  | false =>
    cases h2 : isPut (liveU es last es.length) last j with
    | false => rfl
    | true =>
      have := (isPut_hit h2).2.1
      rw [live_getD hj, liveAt_bare h] at this
      cases this

theorem live_isNew {es : List Pe} {last : Int} {j : Nat} (hj : j < (liveU es last es.length).length) (h : isNew es last (plU es last j) = true) : isNew (liveU es last es.length) last j = true := by
  unfold isNew at h
  rw [decide_eq_true_iff] at h
  obtain ⟨j', hj', e, hf⟩ := live_new h
  obtain rfl := plU_inj hj' hj e
  unfold isNew
  rw [decide_eq_true_iff, live_getD hj, liveAt_client]
  exact hf

/-- What counts of what counts is it. -/
theorem live_live (es : List Pe) (last : Int) : liveU (liveU es last es.length) last (liveU es last es.length).length = liveU es last es.length := by
  have hp : placesU (liveU es last es.length) last (liveU es last es.length).length = List.range (liveU es last es.length).length := by
    unfold placesU
    rw [List.filter_eq_self]
    intro j hj
    rw [List.mem_range] at hj
    rw [Bool.or_eq_true, live_isPut hj]
    exact (plU_mem hj).2.imp id (live_isNew hj)
  conv => lhs; unfold liveU
  rw [show placesU (List.map (liveAt es last) (placesU es last es.length)) last (List.map (liveAt es last) (placesU es last es.length)).length = List.range (liveU es last es.length).length from hp]
  apply List.ext_getElem (by simp)
  intro j h1 h2
  rw [List.getElem_map, List.getElem_range]
  show liveAt (liveU es last es.length) last j = _
  have e1 : (liveU es last es.length)[j] = (liveU es last es.length).getD j pe0 := by rw [List.getD_eq_getElem?_getD, List.getElem?_eq_getElem h2]; rfl
  rw [e1]
  cases h : isPut (liveU es last es.length) last j with
  | true => exact liveAt_put h
  | false =>
    rw [liveAt_bare h, live_getD h2, liveAt_bare (by rw [← live_isPut h2]; exact h)]
    rfl

/-- What Find answers, and its Put. -/
theorem cur_ans (es : List Pe) (last : Int) (key : List UInt8) (k : Nat) : ((ansF es (curU es last k key)).2 = ((ansF es (fndU es last key k)).2 && decide ((ansF es (fndU es last key k)).1.op = 1))) ∧ ((ansF es (curU es last k key)).2 = true → (ansF es (curU es last k key)).1 = (ansF es (fndU es last key k)).1) := by
  unfold curU
  cases h : fndU es last key k with
  | none => exact ⟨rfl, fun h => by cases h⟩
  | some i =>
    by_cases e : (es.getD i pe0).op = 1
    · simp only [if_pos e]
      exact ⟨by show true = (true && decide ((es.getD i pe0).op = 1)); rw [decide_eq_true e]; rfl, fun _ => trivial⟩
    · simp only [if_neg e]
      exact ⟨by show false = (true && decide ((es.getD i pe0).op = 1)); rw [decide_eq_false e]; rfl, fun h => by cases h⟩

end Go.Proofs.Ytdifnipjmnbojaa
