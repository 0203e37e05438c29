/-
  Sums over GF(256) in plain numbers; products of matrices; systems of equations and what row operations keep; rows of powers.
-/
import Derived.Test.YtnhledngeicekaaMatA
namespace Go.Proofs.Ytnhledngeicekaa.Mt
open Go.Proofs.Ytnhledngeicekaa

/-- f 0 + f 1 + .. + f (n - 1). -/
def xs : Nat → (Nat → Nat) → Nat
  | 0, _ => 0
  | n + 1, f => xs n f ^^^ f n

theorem xs_congr (n : Nat) (f g : Nat → Nat) (h : ∀ i, i < n → f i = g i) : xs n f = xs n g := by
  induction n with
  | zero => rfl
  | succ n ih => rw [xs, xs, ih (fun i hi => h i (by omega)), h n (by omega)]

theorem xs_zero (n : Nat) (f : Nat → Nat) (h : ∀ i, i < n → f i = 0) : xs n f = 0 := by
  induction n with
  | zero => rfl
  | succ n ih => rw [xs, ih (fun i hi => h i (by omega)), h n (by omega)]; rfl

theorem xs_xor (n : Nat) (f g : Nat → Nat) : xs n (fun i => f i ^^^ g i) = xs n f ^^^ xs n g := by
  induction n with
  | zero => simp [xs]
  | succ n ih => rw [xs, xs, xs, ih]; exact Gf.x_swap _ _ _ _

theorem xs_lt (n : Nat) (f : Nat → Nat) (h : ∀ i, i < n → f i < 256) : xs n f < 256 := by
  induction n with
  | zero => simp [xs]
  | succ n ih => exact Gf.x_lt _ _ (ih fun i hi => h i (by omega)) (h n (by omega))

theorem xs_gm (n : Nat) (f : Nat → Nat) (a : Nat) : Gf.gm (xs n f) a = xs n fun i => Gf.gm (f i) a := by
  induction n with
  | zero => exact Gf.zero_gm a
  | succ n ih => rw [xs, xs, Gf.add_gm, ih]

theorem gm_xs (n : Nat) (f : Nat → Nat) (a : Nat) : Gf.gm a (xs n f) = xs n fun i => Gf.gm a (f i) := by
  induction n with
  | zero => exact Gf.gm_zero a
  | succ n ih => rw [xs, xs, Gf.gm_add, ih]

theorem xs_one (n k : Nat) (f : Nat → Nat) (hk : k < n) (h : ∀ i, i < n → i ≠ k → f i = 0) : xs n f = f k := by
  induction n with
  | zero => omega
  | succ n ih =>
    by_cases e : k = n
    · subst e
      rw [xs, xs_zero k f (fun i hi => h i (by omega) (by omega)), Nat.zero_xor]
    · rw [xs, ih (by omega) (fun i hi hne => h i (by omega) hne), h n (by omega) (by omega), Nat.xor_zero]

theorem xs_swap (n m : Nat) (f : Nat → Nat → Nat) : xs n (fun i => xs m (f i)) = xs m fun j => xs n fun i => f i j := by
  induction n with
  | zero => rw [xs]; exact (xs_zero m _ (fun _ _ => rfl)).symm
  | succ n ih =>
    rw [xs, ih, ← xs_xor]
    rfl

/-- An element of a matrix. -/
def en (m : List (List Nat)) (i j : Nat) : Nat := (m.getD i []).getD j 0

/-- All elements are bytes. -/
def By (m : List (List Nat)) : Prop := ∀ i, Gf.Bytes (m.getD i [])

theorem By.lt {m : List (List Nat)} (h : By m) (i j : Nat) : en m i j < 256 := byte_get _ _ (h i)

/-- A row times a column. -/
def dot (n : Nat) (r : List Nat) (x : Nat → Nat) : Nat := xs n fun j => Gf.gm (r.getD j 0) (x j)

theorem dot_lt (n : Nat) (r : List Nat) (x : Nat → Nat) (h : Gf.Bytes r) : dot n r x < 256 := xs_lt _ _ fun _ _ => Gf.gm_lt _ _ (byte_get _ _ h)

theorem dot_scale (n : Nat) (r : List Nat) (x : Nat → Nat) (f : Nat) (hr : Gf.Bytes r) (hx : ∀ j, x j < 256) (hf : f < 256) : dot n (scale r f) x = Gf.gm (dot n r x) f := by
  unfold dot
  rw [xs_gm]
  apply xs_congr
  intro j _
  have h1 := byte_get r j hr
  rw [scale_get, Gf.gm_assoc _ _ _ h1 hf (hx j), Gf.gm_comm f _ hf (hx j), ← Gf.gm_assoc _ _ _ h1 (hx j) hf]

theorem dot_addMul (n : Nat) (r q : List Nat) (x : Nat → Nat) (f : Nat) (hq : Gf.Bytes q) (hl : q.length ≤ r.length) (hx : ∀ j, x j < 256) (hf : f < 256) :
    dot n (addMul r q f) x = dot n r x ^^^ Gf.gm (dot n q x) f := by
  unfold dot
  rw [xs_gm, ← xs_xor]
  apply xs_congr
  intro j _
  have h1 := byte_get q j hq
  rw [addMul_get r q f j hl, Gf.add_gm, Gf.gm_assoc _ _ _ h1 hf (hx j), Gf.gm_comm f _ hf (hx j), ← Gf.gm_assoc _ _ _ h1 (hx j) hf]

/-- Left side of equation i, both parts. -/
def eqn (n : Nat) (L M : List (List Nat)) (x z : Nat → Nat) (i : Nat) : Nat := dot n (L.getD i []) x ^^^ dot n (M.getD i []) z

/-- x and z meet all n equations. -/
def Sys (n : Nat) (L M : List (List Nat)) (x z : Nat → Nat) : Prop := ∀ i, i < n → eqn n L M x z i = 0

/-- Two systems that the same x and z meet. -/
def Eqv (n : Nat) (L M L' M' : List (List Nat)) : Prop := ∀ x z : Nat → Nat, (∀ j, x j < 256) → (∀ j, z j < 256) → (Sys n L M x z ↔ Sys n L' M' x z)

theorem Eqv.refl (n : Nat) (L M : List (List Nat)) : Eqv n L M L M := fun _ _ _ _ => Iff.rfl
theorem Eqv.trans {n : Nat} {L M L' M' L'' M'' : List (List Nat)} (h : Eqv n L M L' M') (k : Eqv n L' M' L'' M'') : Eqv n L M L'' M'' := fun x z hx hz => (h x z hx hz).trans (k x z hx hz)

theorem getD_set_ne {α : Type} (m : List α) (i j : Nat) (x d : α) (h : j ≠ i) : (m.set i x).getD j d = m.getD j d := by
  rw [List.getD_eq_getElem?_getD, List.getElem?_set_ne (by omega), ← List.getD_eq_getElem?_getD]
theorem getD_set_eq {α : Type} (m : List α) (i : Nat) (x d : α) (h : i < m.length) : (m.set i x).getD i d = x := by
  rw [List.getD_eq_getElem?_getD, List.getElem?_set_self h]; rfl

/-- Row i times f, f no zero. -/
theorem eqv_scale (n i f : Nat) (L M : List (List Nat)) (hL : L.length = n) (hM : M.length = n) (bL : By L) (bM : By M) (hi : i < n) (hf : f < 256) (h0 : f ≠ 0) :
    Eqv n L M (L.set i (scale (L.getD i []) f)) (M.set i (scale (M.getD i []) f)) := by
  intro x z hx hz
  have e : eqn n (L.set i (scale (L.getD i []) f)) (M.set i (scale (M.getD i []) f)) x z i = Gf.gm (eqn n L M x z i) f := by
    unfold eqn
    rw [getD_set_eq _ _ _ _ (by omega), getD_set_eq _ _ _ _ (by omega), dot_scale n _ x f (bL i) hx hf, dot_scale n _ z f (bM i) hz hf, Gf.add_gm]
  have o : ∀ j, j ≠ i → eqn n (L.set i (scale (L.getD i []) f)) (M.set i (scale (M.getD i []) f)) x z j = eqn n L M x z j := by
    intro j hj
    unfold eqn
    rw [getD_set_ne _ _ _ _ _ hj, getD_set_ne _ _ _ _ _ hj]
  constructor
  · intro h j hj
    by_cases ej : j = i
    · subst ej; rw [e, h j hj, Gf.zero_gm]
    · rw [o j ej]; exact h j hj
  · intro h j hj
    by_cases ej : j = i
    · subst ej
      have h1 := h j hj
      rw [e] at h1
      apply Classical.byContradiction
      intro hne
      exact Gf.gm_ne _ _ hne h0 (Gf.x_lt _ _ (dot_lt _ _ _ (bL j)) (dot_lt _ _ _ (bM j))) hf h1
    · rw [← o j ej]; exact h j hj

/-- Row i plus f times row r. -/
theorem eqv_add (n i r f : Nat) (L M : List (List Nat)) (hL : L.length = n) (hM : M.length = n) (bL : By L) (bM : By M) (hi : i < n) (hr : r < n) (hne : r ≠ i) (hf : f < 256)
    (lL : (L.getD r []).length ≤ (L.getD i []).length) (lM : (M.getD r []).length ≤ (M.getD i []).length) :
    Eqv n L M (L.set i (addMul (L.getD i []) (L.getD r []) f)) (M.set i (addMul (M.getD i []) (M.getD r []) f)) := by
  intro x z hx hz
  have e : eqn n (L.set i (addMul (L.getD i []) (L.getD r []) f)) (M.set i (addMul (M.getD i []) (M.getD r []) f)) x z i = eqn n L M x z i ^^^ Gf.gm (eqn n L M x z r) f := by
    unfold eqn
    rw [getD_set_eq _ _ _ _ (by omega), getD_set_eq _ _ _ _ (by omega), dot_addMul n _ _ x f (bL r) lL hx hf, dot_addMul n _ _ z f (bM r) lM hz hf, Gf.add_gm]
    exact Gf.x_swap _ _ _ _
  have o : ∀ j, j ≠ i → eqn n (L.set i (addMul (L.getD i []) (L.getD r []) f)) (M.set i (addMul (M.getD i []) (M.getD r []) f)) x z j = eqn n L M x z j := by
    intro j hj
    unfold eqn
    rw [getD_set_ne _ _ _ _ _ hj, getD_set_ne _ _ _ _ _ hj]
  constructor
  · intro h j hj
    by_cases ej : j = i
    · subst ej; rw [e, h j hj, h r hr, Gf.zero_gm]; rfl
    · rw [o j ej]; exact h j hj
  · intro h j hj
    by_cases ej : j = i
    · subst ej
      have h1 := h j hj
      have h2 := h r hr
      rw [o r hne] at h2
      rw [e, h2, Gf.zero_gm, Nat.xor_zero] at h1
      exact h1
    · rw [← o j ej]; exact h j hj

/-- Rows i and j change places. -/
def swp {α : Type} (d : α) (m : List α) (i j : Nat) : List α := (m.set i (m.getD j d)).set j (m.getD i d)
theorem swp_len {α : Type} (d : α) (m : List α) (i j : Nat) : (swp d m i j).length = m.length := by simp [swp]
theorem swp_get {α : Type} (d : α) (m : List α) (i j k : Nat) (hi : i < m.length) (hj : j < m.length) : (swp d m i j).getD k d = m.getD (if k = i then j else if k = j then i else k) d := by
  unfold swp
  by_cases e1 : k = j
  · subst e1
    rw [getD_set_eq _ _ _ _ (by simpa using hj)]
    by_cases e2 : k = i
    · rw [if_pos e2, e2]
    · rw [if_neg e2, if_pos rfl]
  · rw [getD_set_ne _ _ _ _ _ e1]
    by_cases e2 : k = i
    · subst e2; rw [getD_set_eq _ _ _ _ hi, if_pos rfl]
    · rw [getD_set_ne _ _ _ _ _ e2, if_neg e2, if_neg e1]

theorem eqv_swp (n i j : Nat) (L M : List (List Nat)) (hL : L.length = n) (hM : M.length = n) (hi : i < n) (hj : j < n) : Eqv n L M (swp [] L i j) (swp [] M i j) := by
  intro x z _ _
  have e : ∀ k, eqn n (swp [] L i j) (swp [] M i j) x z k = eqn n L M x z (if k = i then j else if k = j then i else k) := by
    intro k
    unfold eqn
    rw [swp_get _ _ _ _ _ (by omega) (by omega), swp_get _ _ _ _ _ (by omega) (by omega)]
  constructor
  · intro h k hk
    rw [e]
    apply h
    split
    · exact hj
    · split
      · exact hi
      · exact hk
  · intro h k hk
    have h1 := h (if k = i then j else if k = j then i else k) (by split; exact hj; split; exact hi; exact hk)
    rw [e] at h1
    have e2 : (if (if k = i then j else if k = j then i else k) = i then j else if (if k = i then j else if k = j then i else k) = j then i else (if k = i then j else if k = j then i else k)) = k := by
      by_cases a : k = i
      · rw [if_pos a]
        by_cases b : j = i
        · rw [if_pos b]; omega
        · rw [if_neg b, if_pos rfl]; omega
      · rw [if_neg a]
        by_cases b : k = j
        · rw [if_pos b, if_pos rfl]; omega
        · rw [if_neg b, if_neg a, if_neg b]
    rw [e2] at h1
    exact h1

theorem by_set {m : List (List Nat)} (h : By m) (i : Nat) (r : List Nat) (hr : Gf.Bytes r) : By (m.set i r) := by
  intro k
  by_cases e : k = i
  · subst e
    by_cases hk : k < m.length
    · rw [getD_set_eq _ _ _ _ hk]; exact hr
    · rw [List.getD_eq_getElem?_getD, List.getElem?_eq_none (by simpa using hk)]; intro c hc; simp at hc
  · rw [getD_set_ne _ _ _ _ _ e]; exact h k

theorem by_swp {m : List (List Nat)} (h : By m) (i j : Nat) : By (swp [] m i j) := by_set (by_set h i _ (h j)) j _ (h i)

end Go.Proofs.Ytnhledngeicekaa.Mt
