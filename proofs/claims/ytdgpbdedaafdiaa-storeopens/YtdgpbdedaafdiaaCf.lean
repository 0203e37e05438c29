/-
  Configurations in plain terms: where a node stands first, who stands at a place, when members are sound. No text of the program is named here.
-/
import Derived.Test.YtdgpbdedaafdiaaGf
namespace Go.Proofs.Ytdgpbdedaafdiaa

/-- Where x stands first; below 0: nowhere. -/
def ix : List Int → Int → Int
  | [], _ => -1
  | y :: ys, x => if y = x then 0 else if ix ys x < 0 then -1 else ix ys x + 1

theorem ix_cases : ∀ (zs : List Int) (x : Int), (ix zs x = -1 ∧ ∀ j, j < zs.length → zs.getD j 0 ≠ x) ∨ ∃ k : Nat, k < zs.length ∧ ix zs x = (k : Int) ∧ zs.getD k 0 = x ∧ ∀ j, j < k → zs.getD j 0 ≠ x
  | [], x => .inl ⟨rfl, fun j hj => by simp at hj⟩
  | y :: ys, x => by
    by_cases h : y = x
    · exact .inr ⟨0, by simp, by simp [ix, h], by simpa using h, fun j hj => by omega⟩
    · rcases ix_cases ys x with ⟨h1, h2⟩ | ⟨k, hk, h1, h2, h3⟩
      · refine .inl ⟨by simp [ix, h, h1], fun j hj => ?_⟩
        cases j with
        | zero => simpa using h
        | succ j => simpa using h2 j (by simpa using hj)
      · refine .inr ⟨k + 1, by simpa using hk, ?_, by simpa using h2, fun j hj => ?_⟩
        · unfold ix
          rw [if_neg h, h1, if_neg (by omega)]
          simp
        · cases j with
          | zero => simpa using h
          | succ j => simpa using h3 j (by omega)

theorem ix_none {zs : List Int} {x : Int} (h : ∀ j, j < zs.length → zs.getD j 0 ≠ x) : ix zs x = -1 := by
  rcases ix_cases zs x with ⟨h1, _⟩ | ⟨k, hk, _, h2, _⟩
  · exact h1
  · exact absurd h2 (h k hk)

theorem ix_first {zs : List Int} {x : Int} {k : Nat} (hk : k < zs.length) (hx : zs.getD k 0 = x) (h : ∀ j, j < k → zs.getD j 0 ≠ x) : ix zs x = (k : Int) := by
  rcases ix_cases zs x with ⟨_, h1⟩ | ⟨m, _, e, h2, h3⟩
  · exact absurd hx (h1 k hk)
  · rw [e]
    rcases Nat.lt_trichotomy m k with h4 | h4 | h4
    · exact absurd h2 (h m h4)
    · rw [h4]
    · exact absurd hx (h3 k h4)

theorem ix_range (zs : List Int) (x : Int) : -1 ≤ ix zs x ∧ ix zs x < zs.length := by
  rcases ix_cases zs x with ⟨h1, _⟩ | ⟨m, h0, e, _, _⟩ <;> omega

theorem ix_at {zs : List Int} {x : Int} (h : 0 ≤ ix zs x) : zs.getD (ix zs x).toNat 0 = x := by
  rcases ix_cases zs x with ⟨h1, _⟩ | ⟨m, h0, e, h2, _⟩
  · omega
  · rw [e]; exact h2

theorem cf_take (zs : List Int) (i j : Nat) (h : j < i) : (zs.take i).getD j 0 = zs.getD j 0 := by
  rw [List.getD_eq_getElem?_getD, List.getElem?_take_of_lt h, ← List.getD_eq_getElem?_getD]

/-- Nobody ahead is it: it stands here first. -/
theorem ix_take {zs : List Int} {i : Nat} (hi : i < zs.length) : ix (zs.take i) (zs.getD i 0) < 0 ↔ ix zs (zs.getD i 0) = (i : Int) := by
  constructor
  · intro h
    refine ix_first hi rfl fun j hj => ?_
    rcases ix_cases (zs.take i) (zs.getD i 0) with ⟨_, h1⟩ | ⟨m, _, e, _, _⟩
    · have := h1 j (by rw [List.length_take]; omega)
      rwa [cf_take zs i j hj] at this
    · omega
  · intro h
    rcases ix_cases zs (zs.getD i 0) with ⟨e, _⟩ | ⟨m, _, e, _, h3⟩
    · omega
    · obtain rfl : m = i := by omega
      rw [ix_none]
      · omega
      · intro j hj
        rw [List.length_take] at hj
        rw [cf_take zs m j (by omega)]
        exact h3 j (by omega)

/-- May the member at place i be? -/
def okAt (zs : List Int) (i : Nat) : Bool := decide (0 ≤ zs.getD i 0) && decide (zs.getD i 0 < 16) && decide (ix zs (zs.getD i 0) = (i : Int))

/-- May the members be? -/
def nodB (zs : List Int) : Bool := (List.range zs.length).all (okAt zs)

theorem nodB_yes {zs : List Int} (h : ∀ i, i < zs.length → okAt zs i = true) : nodB zs = true := by
  unfold nodB
  rw [List.all_eq_true]
  intro i hi
  exact h i (by simpa using hi)

theorem nodB_no {zs : List Int} {i : Nat} (hi : i < zs.length) (h : okAt zs i = false) : nodB zs = false := by
  unfold nodB
  rw [List.all_eq_false]
  exact ⟨i, by simpa using hi, by rw [h]; simp⟩

theorem nodB_at {zs : List Int} (h : nodB zs = true) {i : Nat} (hi : i < zs.length) : 0 ≤ zs.getD i 0 ∧ zs.getD i 0 < 16 ∧ ix zs (zs.getD i 0) = (i : Int) := by
  unfold nodB at h
  rw [List.all_eq_true] at h
  have := h i (by simpa using hi)
  unfold okAt at this
  simp only [Bool.and_eq_true, decide_eq_true_eq] at this
  exact ⟨this.1.1, this.1.2, this.2⟩

def fitB (k m : Int) : Bool := decide (1 ≤ k) && decide (0 ≤ m) && decide (k ≤ 16 - m)

/-- May a configuration be? -/
def cfB (e : Int) (zs : List Int) (k m : Int) : Bool := decide (1 ≤ e) && decide (e ≤ 1099511627776) && fitB k m && decide ((zs.length : Int) = k + m) && nodB zs

theorem cfB_at {e k m : Int} {zs : List Int} (h : cfB e zs k m = true) : 1 ≤ e ∧ e ≤ 1099511627776 ∧ 1 ≤ k ∧ 0 ≤ m ∧ k ≤ 16 - m ∧ (zs.length : Int) = k + m ∧ nodB zs = true := by
  unfold cfB fitB at h
  simp only [Bool.and_eq_true, decide_eq_true_eq] at h
  exact ⟨h.1.1.1.1, h.1.1.1.2, h.1.1.2.1.1, h.1.1.2.1.2, h.1.1.2.2, h.1.2, h.2⟩

/-- Is there a member at place p; which one, or 0. -/
def atO (l : Nat) (p : Int) : Bool := decide (0 ≤ p) && decide (p < (l : Int))
def atV (zs : List Int) (p : Int) : Int := if atO zs.length p then zs.getD p.toNat 0 else 0

theorem atO_yes {l : Nat} {p : Int} (h : 0 ≤ p) (h' : p < (l : Int)) : atO l p = true := by unfold atO; simp; omega
theorem atO_low {l : Nat} {p : Int} (h : p < 0) : atO l p = false := by unfold atO; simp; omega
theorem atO_high {l : Nat} {p : Int} (h : (l : Int) ≤ p) : atO l p = false := by unfold atO; simp; omega
theorem atV_yes {zs : List Int} {p : Int} (h : 0 ≤ p) (h' : p < (zs.length : Int)) : atV zs p = zs.getD p.toNat 0 := by unfold atV; rw [atO_yes h h']; rfl
theorem atV_no {zs : List Int} {p : Int} (h : atO zs.length p = false) : atV zs p = 0 := by unfold atV; rw [h]; rfl

/-- Where a node stands, or 0. -/
def psV (zs : List Int) (x : Int) : Int := if ix zs x < 0 then 0 else ix zs x
def psO (zs : List Int) (x : Int) : Bool := decide (0 ≤ ix zs x)

/-- Who stands so many places behind a node, or 0. -/
def bsV (zs : List Int) (x s : Int) : Int := if ix zs x < 0 then 0 else atV zs (ix zs x + s)
def bsO (zs : List Int) (x s : Int) : Bool := if ix zs x < 0 then false else atO zs.length (ix zs x + s)

theorem pigeon : ∀ (n m : Nat) (f : Nat → Nat), (∀ i, i < m → f i < n) → (∀ i j, i < m → j < m → f i = f j → i = j) → m ≤ n
  | 0, m, f, h, _ => by
    cases m with
    | zero => omega
    | succ m => have := h 0 (by omega); omega
  | n + 1, 0, f, _, _ => by omega
  | n + 1, m + 1, f, h, hi => by
    have := pigeon n m (fun j => if f j = n then f m else f j) (fun i hm => by
      show (if f i = n then f m else f i) < n
      by_cases e : f i = n
      · rw [if_pos e]
        have h1 := h m (by omega)
        have h2 : f m ≠ n := fun e2 => by have := hi i m (by omega) (by omega) (e.trans e2.symm); omega
        omega
      · rw [if_neg e]
        have := h i (by omega)
        omega) (fun i j hm hj e => by
      have e' : (if f i = n then f m else f i) = (if f j = n then f m else f j) := e
      by_cases e1 : f i = n
      · by_cases e2 : f j = n
        · exact hi i j (by omega) (by omega) (e1.trans e2.symm)
        · rw [if_pos e1, if_neg e2] at e'
          have := hi m j (by omega) (by omega) e'
          omega
      · by_cases e2 : f j = n
        · rw [if_neg e1, if_pos e2] at e'
          have := hi i m (by omega) (by omega) e'
          omega
        · rw [if_neg e1, if_neg e2] at e'
          exact hi i j (by omega) (by omega) e')
    omega

theorem nodB_inj {zs : List Int} (h : nodB zs = true) {i j : Nat} (hi : i < zs.length) (hj : j < zs.length) (e : zs.getD i 0 = zs.getD j 0) : i = j := by
  have h1 := (nodB_at h hi).2.2
  have h2 := (nodB_at h hj).2.2
  rw [e] at h1
  omega

theorem nodB_len {zs : List Int} (h : nodB zs = true) : zs.length ≤ 16 := by
  refine pigeon 16 zs.length (fun i => (zs.getD i 0).toNat) (fun i hi => ?_) fun i j hi hj e => ?_
  · have := nodB_at h hi
    show (zs.getD i 0).toNat < 16
    omega
  · have h1 := nodB_at h hi
    have h2 := nodB_at h hj
    have e' : (zs.getD i 0).toNat = (zs.getD j 0).toNat := e
    exact nodB_inj h hi hj (by omega)

/-- What the law says ahead of its loop. -/
def wantZ (ep k m : Int) (l : Nat) : Bool := decide (1 ≤ ep) && decide (ep ≤ 1099511627776) && decide (1 ≤ k) && decide (k ≤ 100) && decide (0 ≤ m) && decide (m ≤ 16) && decide ((l : Int) = k + m)

theorem wantZ_cf (ep k m : Int) (zs : List Int) : (wantZ ep k m zs.length && nodB zs) = cfB ep zs k m := by
  rw [Bool.eq_iff_iff]
  constructor
  · intro h
    unfold wantZ at h
    simp only [Bool.and_eq_true, decide_eq_true_eq] at h
    have h16 := nodB_len h.2
    obtain ⟨⟨⟨⟨⟨⟨⟨h1, h2⟩, h3⟩, h4⟩, h5⟩, h6⟩, h7⟩, h8⟩ := h
    unfold cfB fitB
    simp only [Bool.and_eq_true, decide_eq_true_eq]
    exact ⟨⟨⟨⟨h1, h2⟩, ⟨h3, h5⟩, by omega⟩, h7⟩, h8⟩
  · intro h
    obtain ⟨h1, h2, h3, h4, h5, h6, h7⟩ := cfB_at h
    unfold wantZ
    simp only [Bool.and_eq_true, decide_eq_true_eq]
    exact ⟨⟨⟨⟨⟨⟨⟨h1, h2⟩, h3⟩, by omega⟩, h4⟩, by omega⟩, h6⟩, h7⟩

/-- The members up to place j may be. -/
def nodK (zs : List Int) (j : Nat) : Bool := (List.range j).all (okAt zs)
theorem nodK_succ (zs : List Int) (j : Nat) : nodK zs (j + 1) = (nodK zs j && okAt zs j) := by
  unfold nodK
  rw [List.range_succ, List.all_append]
  simp
theorem nodK_all (zs : List Int) : nodK zs zs.length = nodB zs := rfl

end Go.Proofs.Ytdgpbdedaafdiaa
