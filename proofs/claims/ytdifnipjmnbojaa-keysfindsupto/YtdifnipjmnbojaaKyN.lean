/-
  The reference's Names: a text is put into its place.
-/
import Derived.Test.YtdifnipjmnbojaaWalksL2
import Derived.Sort.Walk0
namespace Go.Proofs.Ytdifnipjmnbojaa

/-- Behind the last of the first k texts that is less than x. -/
def atU (ss : List (List UInt8)) (x : List UInt8) : Nat → Nat
  | 0 => 0
  | k + 1 => if ss.getD k [] < x then k + 1 else atU ss x k

/-- Is x one of the first k? -/
def inB (ss : List (List UInt8)) (x : List UInt8) : Nat → Bool
  | 0 => false
  | k + 1 => inB ss x k || decide (ss.getD k [] = x)

theorem atU_yes {ss : List (List UInt8)} {x : List UInt8} {k : Nat} (h : ss.getD k [] < x) : atU ss x (k + 1) = k + 1 := by unfold atU; rw [if_pos h]
theorem atU_no {ss : List (List UInt8)} {x : List UInt8} {k : Nat} (h : ¬ ss.getD k [] < x) : atU ss x (k + 1) = atU ss x k := by
  conv => lhs; unfold atU
  rw [if_neg h]

theorem atU_spec (ss : List (List UInt8)) (x : List UInt8) : ∀ k, atU ss x k ≤ k ∧ (∀ j, atU ss x k ≤ j → j < k → ¬ ss.getD j [] < x) ∧ (atU ss x k = 0 ∨ ss.getD (atU ss x k - 1) [] < x)
  | 0 => ⟨Nat.le_refl _, fun j _ h => by omega, .inl rfl⟩
  | k + 1 => by
    obtain ⟨h1, h2, h3⟩ := atU_spec ss x k
    by_cases h : ss.getD k [] < x
    · rw [atU_yes h]
      exact ⟨Nat.le_refl _, fun j h4 h5 => by omega, .inr (by rw [Nat.add_sub_cancel]; exact h)⟩
    · rw [atU_no h]
      refine ⟨by omega, fun j h4 h5 => ?_, h3⟩
      by_cases e : j = k
      · rw [e]; exact h
      · exact h2 j h4 (by omega)

theorem inB_iff (ss : List (List UInt8)) (x : List UInt8) : ∀ k, inB ss x k = true ↔ ∃ j, j < k ∧ ss.getD j [] = x
  | 0 => ⟨fun h => (by cases h), fun ⟨j, h, _⟩ => (by omega)⟩
  | k + 1 => by
    show (inB ss x k || decide (ss.getD k [] = x)) = true ↔ _
    rw [Bool.or_eq_true, decide_eq_true_iff, inB_iff ss x k]
    constructor
    · rintro (⟨j, h1, h2⟩ | h)
      · exact ⟨j, by omega, h2⟩
      · exact ⟨k, by omega, h⟩
    · rintro ⟨j, h1, h2⟩
      by_cases e : j = k
      · subst e; exact .inr h2
      · exact .inl ⟨j, by omega, h2⟩

theorem inB_mem (ss : List (List UInt8)) (x : List UInt8) : inB ss x ss.length = true ↔ x ∈ ss := by
  rw [inB_iff]
  constructor
  · rintro ⟨j, h1, h2⟩
    rw [← h2, List.getD_eq_getElem?_getD, List.getElem?_eq_getElem h1]
    exact List.getElem_mem h1
  · intro h
    obtain ⟨j, h1, h2⟩ := List.mem_iff_getElem.1 h
    exact ⟨j, h1, by rw [List.getD_eq_getElem?_getD, List.getElem?_eq_getElem h1]; exact h2⟩

theorem lt_of_not (x y : List UInt8) (h1 : ¬ x < y) (h2 : ¬ x = y) : y < x := by
  have h3 : y ≤ x := List.not_lt.1 h1
  refine Classical.byContradiction fun h4 => ?_
  exact h2 (List.le_antisymm (List.not_lt.1 h4) h3)

/-- x put in at a. -/
def insA (ss : List (List UInt8)) (x : List UInt8) (a : Nat) : List (List UInt8) := ss.take a ++ [x] ++ ss.drop a

theorem insA_mem (ss : List (List UInt8)) (x y : List UInt8) (a : Nat) : y ∈ insA ss x a ↔ y ∈ ss ∨ y = x := by
  have h : y ∈ ss ↔ y ∈ ss.take a ∨ y ∈ ss.drop a := by rw [← List.mem_append, List.take_append_drop]
  unfold insA
  rw [List.mem_append, List.mem_append, List.mem_singleton, h]
  constructor
  · rintro ((h | h) | h)
    · exact .inl (.inl h)
    · exact .inr h
    · exact .inl (.inr h)
  · rintro ((h | h) | h)
    · exact .inl (.inl h)
    · exact .inr h
    · exact .inl (.inr h)

theorem insA_sorted {ss : List (List UInt8)} {x : List UInt8} (h : ss.Pairwise (· < ·)) (hx : x ∉ ss) : (insA ss x (atU ss x ss.length)).Pairwise (· < ·) := by
  obtain ⟨h1, h2, h3⟩ := atU_spec ss x ss.length
  generalize atU ss x ss.length = a at *
  have g : ∀ k (hk : k < ss.length), ss.getD k [] = ss[k] := fun k hk => by rw [List.getD_eq_getElem?_getD, List.getElem?_eq_getElem hk]; rfl
  have lo : ∀ k (hk : k < ss.length), k < a → ss[k] < x := fun k hk hka => by
    rcases h3 with h3 | h3
    · omega
    · rw [g _ (by omega)] at h3
      by_cases e : k = a - 1
      · subst e; exact h3
      · exact List.lt_trans (List.pairwise_iff_getElem.1 h k (a - 1) hk (by omega) (by omega)) h3
  have hi : ∀ k (hk : k < ss.length), a ≤ k → x < ss[k] := fun k hk hka => by
    have := h2 k hka hk
    rw [g _ hk] at this
    exact lt_of_not _ _ this (fun e => hx (by rw [← e]; exact List.getElem_mem hk))
  have hd : ∀ b ∈ ss.drop a, x < b := fun b hb => by
    obtain ⟨i, hi', rfl⟩ := List.mem_iff_getElem.1 hb
    rw [List.length_drop] at hi'
    rw [List.getElem_drop]
    exact hi _ _ (by omega)
  unfold insA
  rw [List.append_assoc, List.pairwise_append]
  refine ⟨h.sublist (List.take_sublist _ _), ?_, fun p hp b hb => ?_⟩
  · show (x :: ss.drop a).Pairwise _
    exact List.pairwise_cons.2 ⟨hd, h.sublist (List.drop_sublist _ _)⟩
  · obtain ⟨i, hi', rfl⟩ := List.mem_iff_getElem.1 hp
    rw [List.length_take] at hi'
    rw [List.getElem_take]
    have hpx := lo i (by omega) (by omega)
    rcases List.mem_cons.1 hb with e | hb
    · rw [e]; exact hpx
    · exact List.lt_trans hpx (hd b hb)

/-- Is this key's last Put or Del a Put, by the reference's Find? -/
def putF (es : List Pe) (last : Int) (key : List UInt8) : Prop := (ansF es (fndU es last key es.length)).2 = true ∧ (ansF es (fndU es last key es.length)).1.op = 1

instance (es : List Pe) (last : Int) (key : List UInt8) : Decidable (putF es last key) := by unfold putF; infer_instance

theorem putF_iff {es : List Pe} {last : Int} {key : List UInt8} : putF es last key ↔ (curU es last es.length key).isSome = true := by
  unfold putF curU
  cases h : fndU es last key es.length with
  | none => simp [ansF]
  | some i =>
    by_cases e : (es.getD i pe0).op = 1
    · simp only [if_pos e]; exact ⟨fun _ => rfl, fun _ => ⟨rfl, e⟩⟩
    · simp only [if_neg e]; exact ⟨fun h => absurd h.2 e, fun h => by cases h⟩

/-- The reference's names, by the first k entries. -/
def refN (es : List Pe) (last : Int) : Nat → List (List UInt8)
  | 0 => []
  | k + 1 => if putF es last (kb (es.getD k pe0)) ∧ inB (refN es last k) (kb (es.getD k pe0)) (refN es last k).length = false then insA (refN es last k) (kb (es.getD k pe0)) (atU (refN es last k) (kb (es.getD k pe0)) (refN es last k).length) else refN es last k

theorem refN_yes {es : List Pe} {last : Int} {k : Nat} (h : putF es last (kb (es.getD k pe0)) ∧ inB (refN es last k) (kb (es.getD k pe0)) (refN es last k).length = false) : refN es last (k + 1) = insA (refN es last k) (kb (es.getD k pe0)) (atU (refN es last k) (kb (es.getD k pe0)) (refN es last k).length) := by
  conv => lhs; unfold refN
  rw [if_pos h]
theorem refN_no {es : List Pe} {last : Int} {k : Nat} (h : ¬(putF es last (kb (es.getD k pe0)) ∧ inB (refN es last k) (kb (es.getD k pe0)) (refN es last k).length = false)) : refN es last (k + 1) = refN es last k := by
  conv => lhs; unfold refN
  rw [if_neg h]

theorem refN_spec (es : List Pe) (last : Int) : ∀ k, (refN es last k).Pairwise (· < ·) ∧ ∀ x, x ∈ refN es last k ↔ ∃ j, j < k ∧ kb (es.getD j pe0) = x ∧ putF es last x
  | 0 => ⟨List.Pairwise.nil, fun x => ⟨fun h => (by cases h), fun ⟨j, h, _⟩ => (by omega)⟩⟩
  | k + 1 => by
    obtain ⟨h1, h2⟩ := refN_spec es last k
    by_cases h : putF es last (kb (es.getD k pe0)) ∧ inB (refN es last k) (kb (es.getD k pe0)) (refN es last k).length = false
    · rw [refN_yes h]
      have hx : kb (es.getD k pe0) ∉ refN es last k := fun hm => by
        have := (inB_mem _ _).2 hm
        rw [h.2] at this
        cases this
      refine ⟨insA_sorted h1 hx, fun x => ?_⟩
      rw [insA_mem, h2]
      constructor
      · rintro (⟨j, h3, h4⟩ | rfl)
        · exact ⟨j, by omega, h4⟩
        · exact ⟨k, by omega, rfl, h.1⟩
      · rintro ⟨j, h3, h4, h5⟩
        by_cases e : j = k
        · subst e; exact .inr h4.symm
        · exact .inl ⟨j, by omega, h4, h5⟩
    · rw [refN_no h]
      refine ⟨h1, fun x => ?_⟩
      rw [h2]
      constructor
      · rintro ⟨j, h3, h4⟩
        exact ⟨j, by omega, h4⟩
      · rintro ⟨j, h3, h4, h5⟩
        by_cases e : j = k
        · subst e
          subst h4
          have hm : kb (es.getD j pe0) ∈ refN es last j := by
            rw [← inB_mem]
            cases hb : inB (refN es last j) (kb (es.getD j pe0)) (refN es last j).length with
            | true => rfl
            | false => exact absurd ⟨h5, hb⟩ h
          exact (h2 _).1 hm
        · exact ⟨j, by omega, h4, h5⟩

theorem refN_names (es : List Pe) (last : Int) : NamesOf (curU es last es.length) (refN es last es.length) := by
  obtain ⟨h1, h2⟩ := refN_spec es last es.length
  refine ⟨h1.imp (fun h => List.le_of_lt h), h1.imp (fun h e => by rw [e] at h; exact List.lt_irrefl _ h), fun x => ?_⟩
  rw [h2, ← putF_iff]
  constructor
  · rintro ⟨j, _, _, h5⟩; exact h5
  · intro h
    have h' := putF_iff.1 h
    rw [Option.isSome_iff_exists] at h'
    obtain ⟨j, hj⟩ := h'
    exact ⟨j, curU_lt hj, curU_key hj, h⟩

theorem insA_length (ss : List (List UInt8)) (x : List UInt8) (a : Nat) (h : a ≤ ss.length) : (insA ss x a).length = ss.length + 1 := by
  unfold insA
  simp
  omega

theorem refN_len (es : List Pe) (last : Int) : ∀ k, (refN es last k).length ≤ k
  | 0 => Nat.le_refl _
  | k + 1 => by
    have ih := refN_len es last k
    by_cases h : putF es last (kb (es.getD k pe0)) ∧ inB (refN es last k) (kb (es.getD k pe0)) (refN es last k).length = false
    · rw [refN_yes h, insA_length _ _ _ (atU_spec _ _ _).1]; omega
    · rw [refN_no h]; omega

end Go.Proofs.Ytdifnipjmnbojaa
