/-
  Keys in plain terms: the last place at which something holds, the current Put of a key, the last entry of a client, the entries that count, the greatest number. No text of the program is named here.
-/
import Derived.Test.YtdgpbdedaafdiaaGreatEnt
import Derived.Test.YtdgpbdedaafdiaaGreatMem
namespace Go.Proofs.YtdgpbdedaafdiaaGreat

/-- The last place below k at which p holds. -/
def lastU (p : Pe → Bool) (es : List Pe) : Nat → Option Nat
  | 0 => none
  | k + 1 => if p (es.getD k pe0) = true then some k else lastU p es k

theorem lastU_yes {p : Pe → Bool} {es : List Pe} {k : Nat} (h : p (es.getD k pe0) = true) : lastU p es (k + 1) = some k := by unfold lastU; rw [if_pos h]
theorem lastU_no {p : Pe → Bool} {es : List Pe} {k : Nat} (h : p (es.getD k pe0) = false) : lastU p es (k + 1) = lastU p es k := by
  conv => lhs; unfold lastU
  rw [if_neg (by rw [h]; simp)]

theorem lastU_some {p : Pe → Bool} {es : List Pe} : ∀ {k i : Nat}, lastU p es k = some i → i < k ∧ p (es.getD i pe0) = true ∧ ∀ j, i < j → j < k → p (es.getD j pe0) = false
  | 0, i, h => by cases h
  | k + 1, i, h => by
    cases hp : p (es.getD k pe0) with
    | true =>
      rw [lastU_yes hp] at h
      cases h
      exact ⟨Nat.lt_succ_self _, hp, fun j h1 h2 => by omega⟩
    | false =>
      rw [lastU_no hp] at h
      obtain ⟨h1, h2, h3⟩ := lastU_some h
      refine ⟨by omega, h2, fun j hj hk => ?_⟩
      rcases Nat.lt_or_ge j k with h' | h'
      · exact h3 j hj h'
      · obtain rfl : j = k := by omega
        exact hp

theorem lastU_none {p : Pe → Bool} {es : List Pe} : ∀ {k : Nat}, lastU p es k = none → ∀ j, j < k → p (es.getD j pe0) = false
  | 0, h, j, hj => by omega
  | k + 1, h, j, hj => by
    cases hp : p (es.getD k pe0) with
    | true => rw [lastU_yes hp] at h; cases h
    | false =>
      rw [lastU_no hp] at h
      rcases Nat.lt_or_ge j k with h' | h'
      · exact lastU_none h j h'
      · obtain rfl : j = k := by omega
        exact hp

theorem lastU_is {p : Pe → Bool} {es : List Pe} {k i : Nat} (h1 : i < k) (h2 : p (es.getD i pe0) = true) (h3 : ∀ j, i < j → j < k → p (es.getD j pe0) = false) : lastU p es k = some i := by
  cases h : lastU p es k with
  | none => rw [lastU_none h i h1] at h2; cases h2
  | some j =>
    obtain ⟨j1, j2, j3⟩ := lastU_some h
    rcases Nat.lt_trichotomy i j with e | e | e
    · rw [h3 j e j1] at j2; cases j2
    · rw [e]
    · rw [j3 i e h1] at h2; cases h2

theorem lastU_not {p : Pe → Bool} {es : List Pe} {k : Nat} (h : ∀ j, j < k → p (es.getD j pe0) = false) : lastU p es k = none := by
  cases e : lastU p es k with
  | none => rfl
  | some i =>
    obtain ⟨h1, h2, _⟩ := lastU_some e
    rw [h i h1] at h2; cases h2

/-- An entry's key, as a string's bytes. -/
def kb (e : Pe) : List UInt8 := e.key.map UInt8.ofNat

/-- Is e a Put or Del of this key, its number at most last? -/
def hit (key : List UInt8) (last : Int) (e : Pe) : Bool := decide (kb e = key) && decide (e.seq ≤ last) && (decide (e.op = 1) || decide (e.op = 2))

theorem hit_iff {key : List UInt8} {last : Int} {e : Pe} : hit key last e = true ↔ kb e = key ∧ e.seq ≤ last ∧ (e.op = 1 ∨ e.op = 2) := by
  unfold hit; simp [and_assoc]
theorem hit_no {key : List UInt8} {last : Int} {e : Pe} : hit key last e = false ↔ ¬(kb e = key ∧ e.seq ≤ last ∧ (e.op = 1 ∨ e.op = 2)) := by
  rw [← hit_iff]; simp

/-- Is e of this client, its number at most last? -/
def mine (c last : Int) (e : Pe) : Bool := decide (e.seq ≤ last) && decide (e.client = c)

theorem mine_iff {c last : Int} {e : Pe} : mine c last e = true ↔ e.seq ≤ last ∧ e.client = c := by unfold mine; simp
theorem mine_no {c last : Int} {e : Pe} : mine c last e = false ↔ ¬(e.seq ≤ last ∧ e.client = c) := by rw [← mine_iff]; simp

/-- The place that is a key's last Put or Del below k. -/
def fndU (es : List Pe) (last : Int) (key : List UInt8) (k : Nat) : Option Nat := lastU (hit key last) es k

/-- .. if it is a Put. -/
def curU (es : List Pe) (last : Int) (k : Nat) (key : List UInt8) : Option Nat :=
  match fndU es last key k with
  | some i => if (es.getD i pe0).op = 1 then some i else none
  | none => none

theorem curU_some {es : List Pe} {last : Int} {k i : Nat} {key : List UInt8} : curU es last k key = some i ↔ fndU es last key k = some i ∧ (es.getD i pe0).op = 1 := by
  unfold curU
  cases h : fndU es last key k with
  | none => simp
  | some j =>
    by_cases e : (es.getD j pe0).op = 1
    · simp only [if_pos e, Option.some.injEq]
      constructor
      · rintro rfl; exact ⟨rfl, e⟩
      · rintro ⟨rfl, _⟩; rfl
    · simp only [if_neg e]
      constructor
      · intro h; cases h
      · rintro ⟨h, h'⟩; cases h; exact absurd h' e

theorem curU_zero (es : List Pe) (last : Int) (key : List UInt8) : curU es last 0 key = none := rfl

/-- What an entry turns in the table of current Puts. -/
theorem curU_step (es : List Pe) (last : Int) (k : Nat) (key : List UInt8) : curU es last (k + 1) key =
    if (es.getD k pe0).seq ≤ last ∧ kb (es.getD k pe0) = key ∧ (es.getD k pe0).op = 1 then some k
    else if (es.getD k pe0).seq ≤ last ∧ kb (es.getD k pe0) = key ∧ (es.getD k pe0).op = 2 then none
    else curU es last k key := by
  generalize he : es.getD k pe0 = e at *
  by_cases h1 : e.seq ≤ last ∧ kb e = key ∧ e.op = 1
  · rw [if_pos h1]
    have hh : hit key last (es.getD k pe0) = true := by rw [he]; exact hit_iff.2 ⟨h1.2.1, h1.1, .inl h1.2.2⟩
    exact curU_some.2 ⟨lastU_yes hh, by rw [he]; exact h1.2.2⟩
  · rw [if_neg h1]
    by_cases h2 : e.seq ≤ last ∧ kb e = key ∧ e.op = 2
    · rw [if_pos h2]
      have hh : hit key last (es.getD k pe0) = true := by rw [he]; exact hit_iff.2 ⟨h2.2.1, h2.1, .inr h2.2.2⟩
      have hf : fndU es last key (k + 1) = some k := lastU_yes hh
      cases hc : curU es last (k + 1) key with
      | none => rfl
      | some i =>
        obtain ⟨h3, h4⟩ := curU_some.1 hc
        rw [hf] at h3
        cases h3
        rw [he, h2.2.2] at h4
        cases h4
    · rw [if_neg h2]
      have hh : hit key last (es.getD k pe0) = false := by
        rw [he, hit_no]
        rintro ⟨h3, h4, h5 | h5⟩
        · exact h1 ⟨h4, h3, h5⟩
        · exact h2 ⟨h4, h3, h5⟩
      unfold curU fndU
      rw [lastU_no hh]

theorem curU_lt {es : List Pe} {last : Int} {k i : Nat} {key : List UInt8} (h : curU es last k key = some i) : i < k := (lastU_some (curU_some.1 h).1).1

theorem curU_key {es : List Pe} {last : Int} {k i : Nat} {key : List UInt8} (h : curU es last k key = some i) : kb (es.getD i pe0) = key :=
  (hit_iff.1 (lastU_some (curU_some.1 h).1).2.1).1

/-- The place of a client's last entry below k. -/
def newU (es : List Pe) (last : Int) (k : Nat) (c : Int) : Option Nat := lastU (mine c last) es k

theorem newU_step (es : List Pe) (last : Int) (k : Nat) (c : Int) : newU es last (k + 1) c = if (es.getD k pe0).seq ≤ last ∧ (es.getD k pe0).client = c then some k else newU es last k c := by
  by_cases h : (es.getD k pe0).seq ≤ last ∧ (es.getD k pe0).client = c
  · rw [if_pos h]; exact lastU_yes (mine_iff.2 h)
  · rw [if_neg h]; exact lastU_no (mine_no.2 h)

theorem newU_lt {es : List Pe} {last : Int} {k i : Nat} {c : Int} (h : newU es last k c = some i) : i < k := (lastU_some h).1

theorem newU_client {es : List Pe} {last : Int} {k i : Nat} {c : Int} (h : newU es last k c = some i) : (es.getD i pe0).client = c := (mine_iff.1 (lastU_some h).2.1).2

/-- What is left of an entry that only tells the client's last number. -/
def bareE (e : Pe) : Pe := ⟨e.seq, e.client, e.num, 0, [], 0, 0, []⟩

theorem bareE_wf {e : Pe} (h : e.Wf) : (bareE e).Wf := ⟨h.seq, h.client, h.num, by unfold bareE I64; simp, by unfold bareE I64; simp, by unfold bareE; simp, by unfold bareE; exact bytes_nil, by unfold bareE; exact bytes_nil⟩

/-- Is place i a current Put? Is it a client's last entry? -/
def isPut (es : List Pe) (last : Int) (i : Nat) : Bool := decide (curU es last es.length (kb (es.getD i pe0)) = some i)
def isNew (es : List Pe) (last : Int) (i : Nat) : Bool := decide (newU es last es.length (es.getD i pe0).client = some i)

def liveAt (es : List Pe) (last : Int) (i : Nat) : Pe := if isPut es last i = true then es.getD i pe0 else bareE (es.getD i pe0)

/-- The places that count, below k; the entries. -/
def placesU (es : List Pe) (last : Int) (k : Nat) : List Nat := (List.range k).filter fun i => isPut es last i || isNew es last i
def liveU (es : List Pe) (last : Int) (k : Nat) : List Pe := (placesU es last k).map (liveAt es last)

theorem placesU_succ (es : List Pe) (last : Int) (k : Nat) : placesU es last (k + 1) = placesU es last k ++ if (isPut es last k || isNew es last k) = true then [k] else [] := by
  unfold placesU
  rw [List.range_succ, List.filter_append]
  congr 1
  cases h : (isPut es last k || isNew es last k) <;> simp [h]

theorem liveU_succ (es : List Pe) (last : Int) (k : Nat) : liveU es last (k + 1) = liveU es last k ++ if (isPut es last k || isNew es last k) = true then [liveAt es last k] else [] := by
  unfold liveU
  rw [placesU_succ, List.map_append]
  congr 1
  split <;> rfl

/-- The greatest number of a client below k, and where it first stands. -/
def numU (es : List Pe) (c : Int) : Nat → Int × Int
  | 0 => (0, 0)
  | k + 1 => if (es.getD k pe0).client = c ∧ (numU es c k).1 < (es.getD k pe0).num then ((es.getD k pe0).num, (es.getD k pe0).seq) else numU es c k

theorem numU_yes {es : List Pe} {c : Int} {k : Nat} (h : (es.getD k pe0).client = c ∧ (numU es c k).1 < (es.getD k pe0).num) : numU es c (k + 1) = ((es.getD k pe0).num, (es.getD k pe0).seq) := by
  conv => lhs; unfold numU
  rw [if_pos h]
theorem numU_no {es : List Pe} {c : Int} {k : Nat} (h : ¬((es.getD k pe0).client = c ∧ (numU es c k).1 < (es.getD k pe0).num)) : numU es c (k + 1) = numU es c k := by
  conv => lhs; unfold numU
  rw [if_neg h]

end Go.Proofs.YtdgpbdedaafdiaaGreat
