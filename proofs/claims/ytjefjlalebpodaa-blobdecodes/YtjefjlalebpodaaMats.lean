/-
  Rows and matrices over GF(256) in plain numbers: sums, products, equations; what a row operation keeps.
  Sums over GF(256) in plain numbers; products of matrices; systems of equations and what row operations keep; rows of powers.
  What elimination makes of a matrix: a column cleared; an inverse, or a nonzero solution of the equations with zero; rows in echelon form.
  Rows in echelon form: what the law's rank keeps, and that full rank leaves no nonzero solution.
  A polynomial over GF(256) with as many unlike roots as it has coefficients is zero; rows of powers hang together only if two are alike.
  The value at x of the one polynomial that has given values at 0, 1, 2, ..: Lagrange's sum, and that it is the value of every such polynomial.
-/
import Derived.Test.YtjefjlalebpodaaGf
namespace Go.Proofs.Ytjefjlalebpodaa.Mt
open Go.Proofs.Ytjefjlalebpodaa

theorem byte_get (ps : List Nat) (k : Nat) (h : Gf.Bytes ps) : ps.getD k 0 < 256 := by
  rw [List.getD_eq_getElem?_getD]
  by_cases hk : k < ps.length
  · rw [List.getElem?_eq_getElem hk]; exact h _ (List.getElem_mem _)
  · rw [List.getElem?_eq_none (by omega)]; simp

theorem getD_out (ps : List Nat) (k : Nat) (h : ps.length ≤ k) : ps.getD k 0 = 0 := by
  rw [List.getD_eq_getElem?_getD, List.getElem?_eq_none h]; rfl

/-- row + f * other. -/
def addMul : List Nat → List Nat → Nat → List Nat
  | [], _, _ => []
  | c :: r, [], _ => c :: r
  | c :: r, d :: q, f => (c ^^^ Gf.gm d f) :: addMul r q f

theorem addMul_nil (r : List Nat) (f : Nat) : addMul r [] f = r := by cases r <;> rfl

theorem addMul_len : ∀ (r q : List Nat) (f : Nat), (addMul r q f).length = r.length
  | [], _, _ => rfl
  | c :: r, [], _ => rfl
  | c :: r, d :: q, f => by simp [addMul, addMul_len r q f]

theorem addMul_get : ∀ (r q : List Nat) (f j : Nat), q.length ≤ r.length → (addMul r q f).getD j 0 = r.getD j 0 ^^^ Gf.gm (q.getD j 0) f
  | [], [], f, j, _ => by simp [addMul, Gf.zero_gm]
  | [], d :: q, f, j, h => by simp at h
  | c :: r, [], f, j, _ => by simp [addMul, Gf.zero_gm]
  | c :: r, d :: q, f, 0, _ => by simp [addMul]
  | c :: r, d :: q, f, j + 1, h => by
    simp only [addMul, List.getD_cons_succ]
    exact addMul_get r q f j (by simpa using h)

theorem addMul_set : ∀ (r q : List Nat) (f k : Nat), k < q.length → k < r.length →
    addMul r (q.take (k + 1)) f = (addMul r (q.take k) f).set k ((addMul r (q.take k) f).getD k 0 ^^^ Gf.gm (q.getD k 0) f)
  | [], _, _, _, _, h => by simp at h
  | c :: r, [], _, _, h, _ => by simp at h
  | c :: r, d :: q, f, 0, _, _ => by simp [addMul, addMul_nil]
  | c :: r, d :: q, f, k + 1, h, h' => by
    have ih := addMul_set r q f k (by simpa using h) (by simpa using h')
    simp only [List.take_succ_cons, addMul, List.set_cons_succ, List.getD_cons_succ]
    rw [ih]

theorem addMul_zero : ∀ (r q : List Nat), addMul r q 0 = r
  | [], _ => rfl
  | c :: r, [] => rfl
  | c :: r, d :: q => by simp [addMul, addMul_zero r q, Gf.gm_zero]

theorem addMul_bytes : ∀ (r q : List Nat) (f : Nat), Gf.Bytes r → Gf.Bytes q → Gf.Bytes (addMul r q f)
  | [], _, _, h, _ => h
  | c :: r, [], _, h, _ => h
  | c :: r, d :: q, f, h, h' => by
    intro x hx
    rcases List.mem_cons.mp hx with rfl | hx
    · exact Gf.x_lt _ _ (h c (List.mem_cons_self ..)) (Gf.gm_lt _ _ (h' d (List.mem_cons_self ..)))
    · exact addMul_bytes r q f (fun y hy => h y (List.mem_cons_of_mem _ hy)) (fun y hy => h' y (List.mem_cons_of_mem _ hy)) x hx

/-- f * row, done for the first k. -/
def scaleK : List Nat → Nat → Nat → List Nat
  | [], _, _ => []
  | c :: r, _, 0 => c :: r
  | c :: r, f, k + 1 => Gf.gm c f :: scaleK r f k
def scale (r : List Nat) (f : Nat) : List Nat := r.map fun c => Gf.gm c f

theorem scaleK_zero (r : List Nat) (f : Nat) : scaleK r f 0 = r := by cases r <;> rfl
theorem scaleK_all : ∀ (r : List Nat) (f : Nat), scaleK r f r.length = scale r f
  | [], _ => rfl
  | c :: r, f => by simp only [List.length_cons, scaleK, scaleK_all r f]; rfl
theorem scaleK_len : ∀ (r : List Nat) (f k : Nat), (scaleK r f k).length = r.length
  | [], _, _ => rfl
  | c :: r, _, 0 => rfl
  | c :: r, f, k + 1 => by simp [scaleK, scaleK_len r f k]
theorem scaleK_at : ∀ (r : List Nat) (f k : Nat), (scaleK r f k).getD k 0 = r.getD k 0
  | [], _, _ => rfl
  | c :: r, _, 0 => rfl
  | c :: r, f, k + 1 => by simp only [scaleK, List.getD_cons_succ, scaleK_at r f k]
theorem scaleK_set : ∀ (r : List Nat) (f k : Nat), k < r.length → scaleK r f (k + 1) = (scaleK r f k).set k (Gf.gm (r.getD k 0) f)
  | [], _, _, h => by simp at h
  | c :: r, f, 0, _ => by simp [scaleK, scaleK_zero]
  | c :: r, f, k + 1, h => by
    have ih := scaleK_set r f k (by simpa using h)
    simp only [scaleK, List.set_cons_succ, List.getD_cons_succ] at ih ⊢
    rw [ih]
theorem scale_len (r : List Nat) (f : Nat) : (scale r f).length = r.length := by simp [scale]
theorem scale_get (r : List Nat) (f j : Nat) : (scale r f).getD j 0 = Gf.gm (r.getD j 0) f := by
  unfold scale
  rw [List.getD_eq_getElem?_getD, List.getElem?_map, List.getD_eq_getElem?_getD]
  cases r[j]? <;> simp [Gf.zero_gm]
theorem scale_bytes (r : List Nat) (f : Nat) (h : Gf.Bytes r) : Gf.Bytes (scale r f) := by
  intro x hx
  obtain ⟨c, hc, rfl⟩ := List.mem_map.mp hx
  exact Gf.gm_lt _ _ (h c hc)

end Go.Proofs.Ytjefjlalebpodaa.Mt

namespace Go.Proofs.Ytjefjlalebpodaa.Mt
open Go.Proofs.Ytjefjlalebpodaa

/-- f 0 + f 1 + .. + f (n - 1). -/
def xs : Nat → (Nat → Nat) → Nat
  | 0, _ => 0
  | n + 1, f => xs n f ^^^ f n

theorem xs_congr (n : Nat) (f g : Nat → Nat) (h : ∀ i, i < n → f i = g i) : xs n f = xs n g := by
  induction n with
  | zero => rfl
  | succ n ih => rw [xs, xs, ih (fun i hi => h i (by omega)), h n (by omega)]

theorem xs_zero (n : Nat) (f : Nat → Nat) (h : ∀ i, i < n → f i = 0) : xs n f = 0 := by
  induction n with
  | zero => rfl
  | succ n ih => rw [xs, ih (fun i hi => h i (by omega)), h n (by omega)]; rfl

theorem xs_xor (n : Nat) (f g : Nat → Nat) : xs n (fun i => f i ^^^ g i) = xs n f ^^^ xs n g := by
  induction n with
  | zero => simp [xs]
  | succ n ih => rw [xs, xs, xs, ih]; exact Gf.x_swap _ _ _ _

theorem xs_lt (n : Nat) (f : Nat → Nat) (h : ∀ i, i < n → f i < 256) : xs n f < 256 := by
  induction n with
  | zero => simp [xs]
  | succ n ih => exact Gf.x_lt _ _ (ih fun i hi => h i (by omega)) (h n (by omega))

theorem xs_gm (n : Nat) (f : Nat → Nat) (a : Nat) : Gf.gm (xs n f) a = xs n fun i => Gf.gm (f i) a := by
  induction n with
  | zero => exact Gf.zero_gm a
  | succ n ih => rw [xs, xs, Gf.add_gm, ih]

theorem gm_xs (n : Nat) (f : Nat → Nat) (a : Nat) : Gf.gm a (xs n f) = xs n fun i => Gf.gm a (f i) := by
  induction n with
  | zero => exact Gf.gm_zero a
  | succ n ih => rw [xs, xs, Gf.gm_add, ih]

theorem xs_one (n k : Nat) (f : Nat → Nat) (hk : k < n) (h : ∀ i, i < n → i ≠ k → f i = 0) : xs n f = f k := by
  induction n with
  | zero => omega
  | succ n ih =>
    by_cases e : k = n
    · subst e
      rw [xs, xs_zero k f (fun i hi => h i (by omega) (by omega)), Nat.zero_xor]
    · rw [xs, ih (by omega) (fun i hi hne => h i (by omega) hne), h n (by omega) (by omega), Nat.xor_zero]

theorem xs_swap (n m : Nat) (f : Nat → Nat → Nat) : xs n (fun i => xs m (f i)) = xs m fun j => xs n fun i => f i j := by
  induction n with
  | zero => rw [xs]; exact (xs_zero m _ (fun _ _ => rfl)).symm
  | succ n ih =>
    rw [xs, ih, ← xs_xor]
    rfl

/-- An element of a matrix. -/
def en (m : List (List Nat)) (i j : Nat) : Nat := (m.getD i []).getD j 0

/-- All elements are bytes. -/
def By (m : List (List Nat)) : Prop := ∀ i, Gf.Bytes (m.getD i [])

theorem By.lt {m : List (List Nat)} (h : By m) (i j : Nat) : en m i j < 256 := byte_get _ _ (h i)

/-- A row times a column. -/
def dot (n : Nat) (r : List Nat) (x : Nat → Nat) : Nat := xs n fun j => Gf.gm (r.getD j 0) (x j)

theorem dot_lt (n : Nat) (r : List Nat) (x : Nat → Nat) (h : Gf.Bytes r) : dot n r x < 256 := xs_lt _ _ fun _ _ => Gf.gm_lt _ _ (byte_get _ _ h)

theorem dot_scale (n : Nat) (r : List Nat) (x : Nat → Nat) (f : Nat) (hr : Gf.Bytes r) (hx : ∀ j, x j < 256) (hf : f < 256) : dot n (scale r f) x = Gf.gm (dot n r x) f := by
  unfold dot
  rw [xs_gm]
  apply xs_congr
  intro j _
  have h1 := byte_get r j hr
  rw [scale_get, Gf.gm_assoc _ _ _ h1 hf (hx j), Gf.gm_comm f _ hf (hx j), ← Gf.gm_assoc _ _ _ h1 (hx j) hf]

theorem dot_addMul (n : Nat) (r q : List Nat) (x : Nat → Nat) (f : Nat) (hq : Gf.Bytes q) (hl : q.length ≤ r.length) (hx : ∀ j, x j < 256) (hf : f < 256) :
    dot n (addMul r q f) x = dot n r x ^^^ Gf.gm (dot n q x) f := by
  unfold dot
  rw [xs_gm, ← xs_xor]
  apply xs_congr
  intro j _
  have h1 := byte_get q j hq
  rw [addMul_get r q f j hl, Gf.add_gm, Gf.gm_assoc _ _ _ h1 hf (hx j), Gf.gm_comm f _ hf (hx j), ← Gf.gm_assoc _ _ _ h1 (hx j) hf]

/-- Left side of equation i, both parts. -/
def eqn (n : Nat) (L M : List (List Nat)) (x z : Nat → Nat) (i : Nat) : Nat := dot n (L.getD i []) x ^^^ dot n (M.getD i []) z

/-- x and z meet all n equations. -/
def Sys (n : Nat) (L M : List (List Nat)) (x z : Nat → Nat) : Prop := ∀ i, i < n → eqn n L M x z i = 0

/-- Two systems that the same x and z meet. -/
def Eqv (n : Nat) (L M L' M' : List (List Nat)) : Prop := ∀ x z : Nat → Nat, (∀ j, x j < 256) → (∀ j, z j < 256) → (Sys n L M x z ↔ Sys n L' M' x z)

theorem Eqv.refl (n : Nat) (L M : List (List Nat)) : Eqv n L M L M := fun _ _ _ _ => Iff.rfl
theorem Eqv.trans {n : Nat} {L M L' M' L'' M'' : List (List Nat)} (h : Eqv n L M L' M') (k : Eqv n L' M' L'' M'') : Eqv n L M L'' M'' := fun x z hx hz => (h x z hx hz).trans (k x z hx hz)

theorem getD_set_ne {α : Type} (m : List α) (i j : Nat) (x d : α) (h : j ≠ i) : (m.set i x).getD j d = m.getD j d := by
  rw [List.getD_eq_getElem?_getD, List.getElem?_set_ne (by omega), ← List.getD_eq_getElem?_getD]
theorem getD_set_eq {α : Type} (m : List α) (i : Nat) (x d : α) (h : i < m.length) : (m.set i x).getD i d = x := by
  rw [List.getD_eq_getElem?_getD, List.getElem?_set_self h]; rfl

/-- Row i times f, f no zero. -/
theorem eqv_scale (n i f : Nat) (L M : List (List Nat)) (hL : L.length = n) (hM : M.length = n) (bL : By L) (bM : By M) (hi : i < n) (hf : f < 256) (h0 : f ≠ 0) :
    Eqv n L M (L.set i (scale (L.getD i []) f)) (M.set i (scale (M.getD i []) f)) := by
  intro x z hx hz
  have e : eqn n (L.set i (scale (L.getD i []) f)) (M.set i (scale (M.getD i []) f)) x z i = Gf.gm (eqn n L M x z i) f := by
    unfold eqn
    rw [getD_set_eq _ _ _ _ (by omega), getD_set_eq _ _ _ _ (by omega), dot_scale n _ x f (bL i) hx hf, dot_scale n _ z f (bM i) hz hf, Gf.add_gm]
  have o : ∀ j, j ≠ i → eqn n (L.set i (scale (L.getD i []) f)) (M.set i (scale (M.getD i []) f)) x z j = eqn n L M x z j := by
    intro j hj
    unfold eqn
    rw [getD_set_ne _ _ _ _ _ hj, getD_set_ne _ _ _ _ _ hj]
  constructor
  · intro h j hj
    by_cases ej : j = i
    · subst ej; rw [e, h j hj, Gf.zero_gm]
    · rw [o j ej]; exact h j hj
  · intro h j hj
    by_cases ej : j = i
    · subst ej
      have h1 := h j hj
      rw [e] at h1
      apply Classical.byContradiction
      intro hne
      exact Gf.gm_ne _ _ hne h0 (Gf.x_lt _ _ (dot_lt _ _ _ (bL j)) (dot_lt _ _ _ (bM j))) hf h1
    · rw [← o j ej]; exact h j hj

/-- Row i plus f times row r. -/
theorem eqv_add (n i r f : Nat) (L M : List (List Nat)) (hL : L.length = n) (hM : M.length = n) (bL : By L) (bM : By M) (hi : i < n) (hr : r < n) (hne : r ≠ i) (hf : f < 256)
    (lL : (L.getD r []).length ≤ (L.getD i []).length) (lM : (M.getD r []).length ≤ (M.getD i []).length) :
    Eqv n L M (L.set i (addMul (L.getD i []) (L.getD r []) f)) (M.set i (addMul (M.getD i []) (M.getD r []) f)) := by
  intro x z hx hz
  have e : eqn n (L.set i (addMul (L.getD i []) (L.getD r []) f)) (M.set i (addMul (M.getD i []) (M.getD r []) f)) x z i = eqn n L M x z i ^^^ Gf.gm (eqn n L M x z r) f := by
    unfold eqn
    rw [getD_set_eq _ _ _ _ (by omega), getD_set_eq _ _ _ _ (by omega), dot_addMul n _ _ x f (bL r) lL hx hf, dot_addMul n _ _ z f (bM r) lM hz hf, Gf.add_gm]
    exact Gf.x_swap _ _ _ _
  have o : ∀ j, j ≠ i → eqn n (L.set i (addMul (L.getD i []) (L.getD r []) f)) (M.set i (addMul (M.getD i []) (M.getD r []) f)) x z j = eqn n L M x z j := by
    intro j hj
    unfold eqn
    rw [getD_set_ne _ _ _ _ _ hj, getD_set_ne _ _ _ _ _ hj]
  constructor
  · intro h j hj
    by_cases ej : j = i
    · subst ej; rw [e, h j hj, h r hr, Gf.zero_gm]; rfl
    · rw [o j ej]; exact h j hj
  · intro h j hj
    by_cases ej : j = i
    · subst ej
      have h1 := h j hj
      have h2 := h r hr
      rw [o r hne] at h2
      rw [e, h2, Gf.zero_gm, Nat.xor_zero] at h1
      exact h1
    · rw [← o j ej]; exact h j hj

/-- Rows i and j change places. -/
def swp {α : Type} (d : α) (m : List α) (i j : Nat) : List α := (m.set i (m.getD j d)).set j (m.getD i d)
theorem swp_len {α : Type} (d : α) (m : List α) (i j : Nat) : (swp d m i j).length = m.length := by simp [swp]
theorem swp_get {α : Type} (d : α) (m : List α) (i j k : Nat) (hi : i < m.length) (hj : j < m.length) : (swp d m i j).getD k d = m.getD (if k = i then j else if k = j then i else k) d := by
  unfold swp
  by_cases e1 : k = j
  · subst e1
    rw [getD_set_eq _ _ _ _ (by simpa using hj)]
    by_cases e2 : k = i
    · rw [if_pos e2, e2]
    · rw [if_neg e2, if_pos rfl]
  · rw [getD_set_ne _ _ _ _ _ e1]
    by_cases e2 : k = i
    · subst e2; rw [getD_set_eq _ _ _ _ hi, if_pos rfl]
    · rw [getD_set_ne _ _ _ _ _ e2, if_neg e2, if_neg e1]

theorem eqv_swp (n i j : Nat) (L M : List (List Nat)) (hL : L.length = n) (hM : M.length = n) (hi : i < n) (hj : j < n) : Eqv n L M (swp [] L i j) (swp [] M i j) := by
  intro x z _ _
  have e : ∀ k, eqn n (swp [] L i j) (swp [] M i j) x z k = eqn n L M x z (if k = i then j else if k = j then i else k) := by
    intro k
    unfold eqn
    rw [swp_get _ _ _ _ _ (by omega) (by omega), swp_get _ _ _ _ _ (by omega) (by omega)]
  constructor
  · intro h k hk
    rw [e]
    apply h
    split
    · exact hj
    · split
      · exact hi
      · exact hk
  · intro h k hk
    have h1 := h (if k = i then j else if k = j then i else k) (by split; exact hj; split; exact hi; exact hk)
    rw [e] at h1
    have e2 : (if (if k = i then j else if k = j then i else k) = i then j else if (if k = i then j else if k = j then i else k) = j then i else (if k = i then j else if k = j then i else k)) = k := by
      by_cases a : k = i
      · rw [if_pos a]
        by_cases b : j = i
        · rw [if_pos b]; omega
        · rw [if_neg b, if_pos rfl]; omega
      · rw [if_neg a]
        by_cases b : k = j
        · rw [if_pos b, if_pos rfl]; omega
        · rw [if_neg b, if_neg a, if_neg b]
    rw [e2] at h1
    exact h1

theorem by_set {m : List (List Nat)} (h : By m) (i : Nat) (r : List Nat) (hr : Gf.Bytes r) : By (m.set i r) := by
  intro k
  by_cases e : k = i
  · subst e
    by_cases hk : k < m.length
    · rw [getD_set_eq _ _ _ _ hk]; exact hr
    · rw [List.getD_eq_getElem?_getD, List.getElem?_eq_none (by simpa using hk)]; intro c hc; simp at hc
  · rw [getD_set_ne _ _ _ _ _ e]; exact h k

theorem by_swp {m : List (List Nat)} (h : By m) (i j : Nat) : By (swp [] m i j) := by_set (by_set h i _ (h j)) j _ (h i)

end Go.Proofs.Ytjefjlalebpodaa.Mt

namespace Go.Proofs.Ytjefjlalebpodaa.Mt
open Go.Proofs.Ytjefjlalebpodaa

/-- A square matrix of bytes. -/
structure Sq (n : Nat) (m : List (List Nat)) : Prop where
  len : m.length = n
  row : ∀ i, i < n → (m.getD i []).length = n
  byte : By m

theorem Sq.set {n : Nat} {m : List (List Nat)} (h : Sq n m) (i : Nat) (r : List Nat) (hl : r.length = n) (hb : Gf.Bytes r) : Sq n (m.set i r) where
  len := by simp [h.len]
  row k hk := by
    by_cases e : k = i
    · subst e; rw [getD_set_eq _ _ _ _ (by rw [h.len]; exact hk), hl]
    · rw [getD_set_ne _ _ _ _ _ e]; exact h.row k hk
  byte := by_set h.byte i r hb

theorem Sq.swp {n : Nat} {m : List (List Nat)} (h : Sq n m) (i j : Nat) (hi : i < n) (hj : j < n) : Sq n (swp [] m i j) :=
  (h.set i (m.getD j []) (h.row j hj) (h.byte j)).set j (m.getD i []) (h.row i hi) (h.byte i)

/-- The first c columns are those of the identity matrix. -/
def UnitTo (n c : Nat) (m : List (List Nat)) : Prop := ∀ j, j < c → ∀ i, i < n → en m i j = if i = j then 1 else 0

/-- Row i minus so much of row col that its element in column col is zero; both sides. -/
def sub1 (L M : List (List Nat)) (col i : Nat) : List (List Nat) × List (List Nat) :=
  if i = col then (L, M) else (L.set i (addMul (L.getD i []) (L.getD col []) (en L i col)), M.set i (addMul (M.getD i []) (M.getD col []) (en L i col)))

def subK (L M : List (List Nat)) (col : Nat) : Nat → List (List Nat) × List (List Nat)
  | 0 => (L, M)
  | i + 1 => sub1 (subK L M col i).1 (subK L M col i).2 col i

structure SubInv (n col k : Nat) (L M L' M' : List (List Nat)) : Prop where
  sqL : Sq n L'
  sqM : Sq n M'
  eqv : Eqv n L M L' M'
  unit : UnitTo n col L'
  piv : L'.getD col [] = L.getD col []
  done : ∀ i, i < k → i ≠ col → en L' i col = 0

theorem sub_inv (n col : Nat) (L M : List (List Nat)) (sL : Sq n L) (sM : Sq n M) (hc : col < n) (hu : UnitTo n col L) (h1 : en L col col = 1) :
    ∀ k, k ≤ n → SubInv n col k L M (subK L M col k).1 (subK L M col k).2 := by
  intro k
  induction k with
  | zero => exact fun _ => ⟨sL, sM, Eqv.refl _ _ _, hu, rfl, fun i hi => by omega⟩
  | succ k ih =>
    intro hk
    have I := ih (by omega)
    rw [subK]
    generalize (subK L M col k).1 = A at *
    generalize (subK L M col k).2 = B at *
    unfold sub1
    by_cases e : k = col
    · rw [if_pos e]
      refine ⟨I.sqL, I.sqM, I.eqv, I.unit, I.piv, fun i hi hne => I.done i (by omega) hne⟩
    · rw [if_neg e]
      have hf := I.sqL.byte.lt k col
      have hlA : (A.getD col []).length ≤ (A.getD k []).length := by rw [I.sqL.row col hc, I.sqL.row k (by omega)]; exact Nat.le_refl _
      have hlB : (B.getD col []).length ≤ (B.getD k []).length := by rw [I.sqM.row col hc, I.sqM.row k (by omega)]; exact Nat.le_refl _
      have hpe : ∀ j, en A col j = en L col j := fun j => by unfold en; rw [I.piv]
      refine ⟨I.sqL.set _ _ (by rw [addMul_len]; exact I.sqL.row k (by omega)) (addMul_bytes _ _ _ (I.sqL.byte k) (I.sqL.byte col)),
        I.sqM.set _ _ (by rw [addMul_len]; exact I.sqM.row k (by omega)) (addMul_bytes _ _ _ (I.sqM.byte k) (I.sqM.byte col)),
        I.eqv.trans (eqv_add n k col _ A B I.sqL.len I.sqM.len I.sqL.byte I.sqM.byte (by omega) hc (fun h => e h.symm) hf hlA hlB), ?_, ?_, ?_⟩
      · intro j hj i hi
        by_cases ei : i = k
        · subst ei
          show ((A.set i _).getD i []).getD j 0 = _
          rw [getD_set_eq _ _ _ _ (by rw [I.sqL.len]; exact hi), addMul_get _ _ _ _ hlA]
          have h0 : (A.getD col []).getD j 0 = 0 := by
            have := I.unit j hj col hc
            rw [if_neg (by omega)] at this
            exact this
          rw [h0, Gf.zero_gm, Nat.xor_zero]
          exact I.unit j hj i hi
        · show ((A.set k _).getD i []).getD j 0 = _
          rw [getD_set_ne _ _ _ _ _ ei]
          exact I.unit j hj i hi
      · rw [getD_set_ne _ _ _ _ _ (fun h => e h.symm), I.piv]
      · intro i hi hne
        by_cases ei : i = k
        · subst ei
          show ((A.set i _).getD i []).getD col 0 = _
          rw [getD_set_eq _ _ _ _ (by rw [I.sqL.len]; omega), addMul_get _ _ _ _ hlA]
          have hp : (A.getD col []).getD col 0 = 1 := by have := hpe col; rw [h1] at this; exact this
          rw [hp, Gf.one_gm _ hf]
          exact Nat.xor_self _
        · show ((A.set k _).getD i []).getD col 0 = _
          rw [getD_set_ne _ _ _ _ _ ei]
          exact I.done i (by omega) hne

/-- What clearing column col by row p makes. -/
def clr (L M : List (List Nat)) (n col p : Nat) : List (List Nat) × List (List Nat) :=
  subK ((swp [] L col p).set col (scale ((swp [] L col p).getD col []) (Gf.inv (en (swp [] L col p) col col)))) ((swp [] M col p).set col (scale ((swp [] M col p).getD col []) (Gf.inv (en (swp [] L col p) col col)))) col n

theorem en_swp (m : List (List Nat)) (n i j k c : Nat) (hm : m.length = n) (hi : i < n) (hj : j < n) : en (swp [] m i j) k c = en m (if k = i then j else if k = j then i else k) c := by
  unfold en
  rw [swp_get _ _ _ _ _ (by omega) (by omega)]

theorem clr_step (n col p : Nat) (L M : List (List Nat)) (sL : Sq n L) (sM : Sq n M) (hc : col < n) (hp : p < n) (hcp : col ≤ p) (hu : UnitTo n col L) (h0 : en L p col ≠ 0) :
    Sq n (clr L M n col p).1 ∧ Sq n (clr L M n col p).2 ∧ Eqv n L M (clr L M n col p).1 (clr L M n col p).2 ∧ UnitTo n (col + 1) (clr L M n col p).1 := by
  have s1 := sL.swp col p hc hp
  have t1 := sM.swp col p hc hp
  have e1 := eqv_swp n col p L M sL.len sM.len hc hp
  have hpv : en (swp [] L col p) col col = en L p col := by rw [en_swp L n col p col col sL.len hc hp, if_pos rfl]
  have u1 : UnitTo n col (swp [] L col p) := by
    intro j hj i hi
    rw [en_swp L n col p i j sL.len hc hp]
    by_cases a : i = col
    · rw [if_pos a, hu j hj p hp, if_neg (by omega), if_neg (by omega)]
    · rw [if_neg a]
      by_cases b : i = p
      · rw [if_pos b, hu j hj col hc, if_neg (by omega), if_neg (by omega)]
      · rw [if_neg b, hu j hj i hi]
  unfold clr
  have hv : en (swp [] L col p) col col ≠ 0 := by rw [hpv]; exact h0
  have hvl := s1.byte.lt col col
  generalize swp [] L col p = A at *
  generalize swp [] M col p = B at *
  have hfl := Gf.inv_lt (en A col col)
  have hf0 := Gf.inv_ne (en A col col) hv
  have hg := Gf.gm_inv (en A col col) hv hvl
  have hgen : ∀ f, f = Gf.inv (en A col col) → Gf.gm (en A col col) f = 1 := fun f hf => by rw [hf]; exact hg
  have hg2 := hgen _ rfl
  generalize Gf.inv (en A col col) = f at *
  have s2 := s1.set col (scale (A.getD col []) f) (by rw [scale_len]; exact s1.row col hc) (scale_bytes _ _ (s1.byte col))
  have t2 := t1.set col (scale (B.getD col []) f) (by rw [scale_len]; exact t1.row col hc) (scale_bytes _ _ (t1.byte col))
  have e2 := e1.trans (eqv_scale n col f A B s1.len t1.len s1.byte t1.byte hc hfl hf0)
  have h11 : en (A.set col (scale (A.getD col []) f)) col col = 1 := by
    unfold en
    rw [getD_set_eq _ _ _ _ (by rw [s1.len]; exact hc), scale_get]
    exact hg2
  have u2 : UnitTo n col (A.set col (scale (A.getD col []) f)) := by
    intro j hj i hi
    by_cases a : i = col
    · subst a
      unfold en
      rw [getD_set_eq _ _ _ _ (by rw [s1.len]; exact hc), scale_get]
      have : (A.getD i []).getD j 0 = 0 := by have := u1 j hj i hi; rw [if_neg (by omega)] at this; exact this
      rw [this, Gf.zero_gm, if_neg (by omega)]
    · unfold en
      rw [getD_set_ne _ _ _ _ _ a]
      exact u1 j hj i hi
  generalize A.set col (scale (A.getD col []) f) = A2 at *
  generalize B.set col (scale (B.getD col []) f) = B2 at *
  have I := sub_inv n col A2 B2 s2 t2 hc u2 h11 n (Nat.le_refl _)
  refine ⟨I.sqL, I.sqM, e2.trans I.eqv, ?_⟩
  intro j hj i hi
  by_cases ej : j = col
  · subst ej
    by_cases ei : i = j
    · subst ei
      rw [if_pos rfl]
      have : en (subK A2 B2 i n).1 i i = en A2 i i := by unfold en; rw [I.piv]
      rw [this, h11]
    · rw [if_neg ei]; exact I.done i hi ei
  · exact I.unit j (by omega) i hi

/-- A nonzero x with m x = 0. -/
def Sing (n : Nat) (m : List (List Nat)) : Prop := ∃ x : Nat → Nat, (∀ j, x j < 256) ∧ (∃ j, j < n ∧ x j ≠ 0) ∧ ∀ i, i < n → dot n (m.getD i []) x = 0

theorem dot_none (n : Nat) (r : List Nat) (z : Nat → Nat) (h : ∀ j, z j = 0) : dot n r z = 0 := xs_zero _ _ fun j _ => by rw [h, Gf.gm_zero]

theorem sing_of (n col : Nat) (m o L M : List (List Nat)) (hc : col < n) (he : Eqv n m o L M) (hu : UnitTo n col L) (bL : By L) (h0 : ∀ i, col ≤ i → i < n → en L i col = 0) : Sing n m := by
  let x : Nat → Nat := fun j => if j < col then en L j col else if j = col then 1 else 0
  have hx : ∀ j, x j < 256 := by
    intro j
    show (if j < col then en L j col else if j = col then 1 else 0) < 256
    split
    · exact bL.lt j col
    · split <;> omega
  have hxc : x col = 1 := by show (if col < col then _ else if col = col then 1 else 0) = 1; rw [if_neg (by omega), if_pos rfl]
  have hxl : ∀ j, j < col → x j = en L j col := fun j hj => if_pos hj
  have hxg : ∀ j, col < j → x j = 0 := fun j hj => by show (if j < col then _ else if j = col then 1 else 0) = 0; rw [if_neg (by omega), if_neg (by omega)]
  clear_value x
  refine ⟨x, hx, ⟨col, hc, by rw [hxc]; omega⟩, ?_⟩
  have hs : Sys n L M x (fun _ => 0) := by
    intro i hi
    unfold eqn
    rw [dot_none n (M.getD i []) _ (fun _ => rfl), Nat.xor_zero]
    -- the sum: at j = i (if i < col) and at j = col
    have split2 : ∀ (c N : Nat), c < N → ∀ f : Nat → Nat, (∀ j, c < j → j < N → f j = 0) → xs N f = xs c f ^^^ f c := by
      intro c N
      induction N with
      | zero => intro h; omega
      | succ N ih =>
        intro h f hf
        by_cases e : c = N
        · subst e; rfl
        · rw [xs, ih (by omega) f (fun j h1 h2 => hf j h1 (by omega)), hf N (by omega) (by omega), Nat.xor_zero]
    unfold dot
    rw [split2 col n hc _ (fun j h1 _ => by rw [hxg j h1, Gf.gm_zero])]
    rw [hxc, Gf.gm_one ((L.getD i []).getD col 0) (bL.lt i col)]
    show _ ^^^ en L i col = 0
    by_cases hic : i < col
    · rw [xs_one col i _ hic (fun j hj hne => by
        have := hu j hj i hi
        rw [if_neg (fun h => hne h.symm)] at this
        show Gf.gm (en L i j) (x j) = 0
        rw [this, Gf.zero_gm])]
      have h1 : (L.getD i []).getD i 0 = 1 := by have := hu i hic i hi; rw [if_pos rfl] at this; exact this
      rw [h1, hxl i hic, Gf.one_gm _ (bL.lt i col)]
      exact Nat.xor_self _
    · rw [h0 i (by omega) hi, Nat.xor_zero]
      apply xs_zero
      intro j hj
      have := hu j hj i hi
      rw [if_neg (by omega)] at this
      show Gf.gm (en L i j) (x j) = 0
      rw [this, Gf.zero_gm]
  have hm := (he x (fun _ => 0) hx (fun _ => by omega)).mpr hs
  intro i hi
  have := hm i hi
  unfold eqn at this
  rw [dot_none n (o.getD i []) _ (fun _ => rfl), Nat.xor_zero] at this
  exact this

/-- X is m's inverse: z = m x just if x = X z. -/
def InvOf (n : Nat) (m X : List (List Nat)) : Prop :=
  ∀ x z : Nat → Nat, (∀ j, x j < 256) → (∀ j, z j < 256) → ((∀ i, i < n → dot n (m.getD i []) x = z i) ↔ ∀ i, i < n → x i = dot n (X.getD i []) z)

theorem dot_unit (n i : Nat) (r : List Nat) (x : Nat → Nat) (hi : i < n) (hx : ∀ j, x j < 256) (h : ∀ j, j < n → r.getD j 0 = if i = j then 1 else 0) : dot n r x = x i := by
  unfold dot
  rw [xs_one n i _ hi (fun j hj hne => by rw [h j hj, if_neg (fun e => hne e.symm), Gf.zero_gm]), h i hi, if_pos rfl, Gf.one_gm _ (hx i)]

theorem xor_zero_iff (a b : Nat) : a ^^^ b = 0 ↔ a = b := by
  constructor
  · intro h
    have : (a ^^^ b) ^^^ b = b := by rw [h, Nat.zero_xor]
    rw [Nat.xor_assoc, Nat.xor_self, Nat.xor_zero] at this
    exact this
  · rintro rfl; exact Nat.xor_self _

theorem inv_of (n : Nat) (m o L M : List (List Nat)) (he : Eqv n m o L M) (hu : UnitTo n n L) (ho : ∀ i, i < n → ∀ j, j < n → en o i j = if i = j then 1 else 0) : InvOf n m M := by
  intro x z hx hz
  have h := he x z hx hz
  have a : (∀ i, i < n → dot n (m.getD i []) x = z i) ↔ Sys n m o x z := by
    constructor
    · intro k i hi
      unfold eqn
      rw [dot_unit n i (o.getD i []) z hi hz (ho i hi)]
      exact (xor_zero_iff _ _).mpr (k i hi)
    · intro k i hi
      have := k i hi
      unfold eqn at this
      rw [dot_unit n i (o.getD i []) z hi hz (ho i hi)] at this
      exact (xor_zero_iff _ _).mp this
  have b : Sys n L M x z ↔ ∀ i, i < n → x i = dot n (M.getD i []) z := by
    have hr : ∀ i, i < n → dot n (L.getD i []) x = x i := fun i hi => dot_unit n i (L.getD i []) x hi hx fun j hj => hu j hj i hi
    constructor
    · intro k i hi
      have := k i hi
      unfold eqn at this
      rw [hr i hi] at this
      exact (xor_zero_iff _ _).mp this
    · intro k i hi
      unfold eqn
      rw [hr i hi]
      exact (xor_zero_iff _ _).mpr (k i hi)
  exact a.trans (h.trans b)

/-- An inverse times the matrix, the matrix times the inverse. -/
theorem inv_left {n : Nat} {m X : List (List Nat)} (h : InvOf n m X) (bm : By m) (i k : Nat) (hi : i < n) : dot n (X.getD i []) (fun l => en m l k) = if i = k then 1 else if k < n then 0 else dot n (X.getD i []) (fun l => en m l k) := by
  by_cases hk : k < n
  · have hx : ∀ j, (fun j => if j = k then 1 else 0 : Nat → Nat) j < 256 := by intro j; show (if j = k then 1 else 0) < 256; split <;> omega
    have := (h (fun j => if j = k then 1 else 0) (fun l => en m l k) hx (fun l => bm.lt l k)).mp (fun l _ => by
      unfold dot
      rw [xs_one n k _ hk (fun j hj hne => by show Gf.gm _ (if j = k then 1 else 0) = 0; rw [if_neg hne, Gf.gm_zero])]
      show Gf.gm (en m l k) (if k = k then 1 else 0) = en m l k
      rw [if_pos rfl, Gf.gm_one _ (bm.lt l k)]) i hi
    rw [← this]
    by_cases e : i = k
    · rw [if_pos e, if_pos e]
    · rw [if_neg e, if_neg e, if_pos hk]
  · rw [if_neg (by omega), if_neg hk]

theorem inv_right {n : Nat} {m X : List (List Nat)} (h : InvOf n m X) (bX : By X) (i k : Nat) (hi : i < n) (hk : k < n) : dot n (m.getD i []) (fun l => en X l k) = if i = k then 1 else 0 := by
  have hz : ∀ j, (fun j => if j = k then 1 else 0 : Nat → Nat) j < 256 := by intro j; show (if j = k then 1 else 0) < 256; split <;> omega
  exact (h (fun l => en X l k) (fun j => if j = k then 1 else 0) (fun l => bX.lt l k) hz).mpr (fun l _ => by
    unfold dot
    rw [xs_one n k _ hk (fun j hj hne => by show Gf.gm _ (if j = k then 1 else 0) = 0; rw [if_neg hne, Gf.gm_zero])]
    show en X l k = Gf.gm (en X l k) (if k = k then 1 else 0)
    rw [if_pos rfl, Gf.gm_one _ (bX.lt l k)]) i hi

end Go.Proofs.Ytjefjlalebpodaa.Mt

namespace Go.Proofs.Ytjefjlalebpodaa.Mt
open Go.Proofs.Ytjefjlalebpodaa

/-- m x = 0 just if U x = 0. -/
def KerEq (n : Nat) (m U : List (List Nat)) : Prop := ∀ x : Nat → Nat, (∀ j, x j < 256) → ((∀ i, i < n → dot n (m.getD i []) x = 0) ↔ ∀ i, i < n → dot n (U.getD i []) x = 0)

theorem KerEq.refl (n : Nat) (m : List (List Nat)) : KerEq n m m := fun _ _ => Iff.rfl
theorem KerEq.trans {n : Nat} {a b c : List (List Nat)} (h : KerEq n a b) (k : KerEq n b c) : KerEq n a c := fun x hx => (h x hx).trans (k x hx)

theorem ker_of_eqv {n : Nat} {a b M M' : List (List Nat)} (h : Eqv n a M b M') : KerEq n a b := by
  intro x hx
  have := h x (fun _ => 0) hx (fun _ => by omega)
  unfold Sys eqn at this
  have e1 : ∀ i, dot n (M.getD i []) (fun _ => 0) = 0 := fun i => dot_none _ _ _ fun _ => rfl
  have e2 : ∀ i, dot n (M'.getD i []) (fun _ => 0) = 0 := fun i => dot_none _ _ _ fun _ => rfl
  simp only [e1, e2, Nat.xor_zero] at this
  exact this

theorem ker_swp (n i j : Nat) (L : List (List Nat)) (hL : L.length = n) (hi : i < n) (hj : j < n) : KerEq n L (swp [] L i j) := ker_of_eqv (eqv_swp n i j L L hL hL hi hj)

theorem ker_add (n i r f : Nat) (L : List (List Nat)) (sL : Sq n L) (hi : i < n) (hr : r < n) (hne : r ≠ i) (hf : f < 256) : KerEq n L (L.set i (addMul (L.getD i []) (L.getD r []) f)) :=
  ker_of_eqv (eqv_add n i r f L L sL.len sL.len sL.byte sL.byte hi hr hne hf (by rw [sL.row i hi, sL.row r hr]; exact Nat.le_refl _) (by rw [sL.row i hi, sL.row r hr]; exact Nat.le_refl _))

/-- In the first c columns there is nothing below the diagonal, and no zero on it. -/
def Tri (n c : Nat) (U : List (List Nat)) : Prop := ∀ j, j < c → en U j j ≠ 0 ∧ ∀ i, j < i → i < n → en U i j = 0

theorem tri_ker (n : Nat) (U : List (List Nat)) (bU : By U) (hT : Tri n n U) (x : Nat → Nat) (hx : ∀ j, x j < 256) (h : ∀ i, i < n → dot n (U.getD i []) x = 0) : ∀ j, j < n → x j = 0 := by
  have key : ∀ d j, n - j ≤ d → j < n → x j = 0 := by
    intro d
    induction d with
    | zero => intro j h1 h2; omega
    | succ d ih =>
      intro j _ hj
      have hd := h j hj
      unfold dot at hd
      rw [xs_one n j _ hj (fun k hk hne => by
        rcases Nat.lt_or_ge k j with hlt | hge
        · have := (hT k (by omega)).2 j hlt hj
          show Gf.gm (en U j k) (x k) = 0
          rw [this, Gf.zero_gm]
        · rw [ih k (by omega) hk, Gf.gm_zero])] at hd
      exact Classical.byContradiction fun hne => Gf.gm_ne (en U j j) (x j) (hT j hj).1 hne (bU.lt j j) (hx j) hd
  exact fun j hj => key n j (by omega) hj

theorem ipow_log (a n : Nat) (h0 : a ≠ 0) (ha : a < 256) : Gf.ipow a n = Gf.pw (Gf.lg a * n) := by
  induction n with
  | zero => rfl
  | succ n ih =>
    show Gf.gm (Gf.ipow a n) a = _
    rw [ih]
    have e : a = Gf.pw (Gf.lg a) := (Gf.pw_lg a h0 ha).symm
    rw [show Gf.gm (Gf.pw (Gf.lg a * n)) a = Gf.gm (Gf.pw (Gf.lg a * n)) (Gf.pw (Gf.lg a)) by rw [← e], Gf.pw_add, Nat.mul_succ]

/-- a to the power of 254 is its inverse. -/
theorem ipow_inv (a : Nat) (h0 : a ≠ 0) (ha : a < 256) : Gf.gm (Gf.ipow a 254) a = 1 := by
  show Gf.ipow a 255 = 1
  rw [ipow_log a 255 h0 ha, ← Gf.pw_mod, Nat.mul_mod_left]
  rfl

/-- What of row r is taken off row i. -/
def cof (U : List (List Nat)) (r col i : Nat) : Nat := Gf.gm (en U i col) (Gf.ipow (en U r col) 254)

/-- The first t rows below row r cleared in column col. -/
def rk (U : List (List Nat)) (r col : Nat) : Nat → List (List Nat)
  | 0 => U
  | t + 1 => (rk U r col t).set (r + 1 + t) (addMul ((rk U r col t).getD (r + 1 + t) []) ((rk U r col t).getD r []) (cof (rk U r col t) r col (r + 1 + t)))

theorem rk_row (U : List (List Nat)) (r col t : Nat) : (rk U r col t).getD r [] = U.getD r [] := by
  induction t with
  | zero => rfl
  | succ t ih => rw [rk, getD_set_ne _ _ _ _ _ (by omega), ih]

theorem rk_later (U : List (List Nat)) (r col t i : Nat) (hi : r + 1 + t ≤ i) : (rk U r col t).getD i [] = U.getD i [] := by
  induction t with
  | zero => rfl
  | succ t ih => rw [rk, getD_set_ne _ _ _ _ _ (by omega), ih (by omega)]

theorem cof_lt {U : List (List Nat)} (b : By U) (r col i : Nat) : cof U r col i < 256 := Gf.gm_lt _ _ (b.lt i col)

theorem rk_sq (n r col : Nat) (U : List (List Nat)) (sU : Sq n U) (_ : r < n) : ∀ t, r + 1 + t ≤ n → Sq n (rk U r col t) := by
  intro t
  induction t with
  | zero => exact fun _ => sU
  | succ t ih =>
    intro h
    have s := ih (by omega)
    exact s.set _ _ (by rw [addMul_len]; exact s.row _ (by omega)) (addMul_bytes _ _ _ (s.byte _) (s.byte _))

theorem rk_ker (n r col : Nat) (U : List (List Nat)) (sU : Sq n U) (hr : r < n) : ∀ t, r + 1 + t ≤ n → KerEq n U (rk U r col t) := by
  intro t
  induction t with
  | zero => exact fun _ => KerEq.refl _ _
  | succ t ih =>
    intro h
    have s := rk_sq n r col U sU hr t (by omega)
    exact (ih (by omega)).trans (ker_add n (r + 1 + t) r _ _ s (by omega) hr (by omega) (cof_lt s.byte _ _ _))

theorem rk_tri (n col : Nat) (U : List (List Nat)) (sU : Sq n U) (hc : col < n) (hT : Tri n col U) (h0 : en U col col ≠ 0) :
    ∀ t, col + 1 + t ≤ n → Tri n col (rk U col col t) ∧ ∀ i, col < i → i < col + 1 + t → en (rk U col col t) i col = 0 := by
  intro t
  induction t with
  | zero => exact fun _ => ⟨hT, fun i h1 h2 => by omega⟩
  | succ t ih =>
    intro h
    obtain ⟨t1, t2⟩ := ih (by omega)
    have s := rk_sq n col col U sU hc t (by omega)
    have hrow := rk_row U col col t
    rw [rk]
    generalize rk U col col t = A at *
    have hl : (A.getD col []).length ≤ (A.getD (col + 1 + t) []).length := by rw [s.row col hc, s.row _ (by omega)]; exact Nat.le_refl _
    have hpv : en A col col ≠ 0 := by unfold en; rw [hrow]; exact h0
    refine ⟨fun j hj => ⟨?_, fun i h1 h2 => ?_⟩, fun i h1 h2 => ?_⟩
    · show ((A.set _ _).getD j []).getD j 0 ≠ 0
      rw [getD_set_ne _ _ _ _ _ (by omega)]
      exact (t1 j hj).1
    · by_cases e : i = col + 1 + t
      · subst e
        show ((A.set _ _).getD _ []).getD j 0 = 0
        rw [getD_set_eq _ _ _ _ (by rw [s.len]; exact h2), addMul_get _ _ _ _ hl]
        have z1 : (A.getD (col + 1 + t) []).getD j 0 = 0 := (t1 j hj).2 _ h1 h2
        have z2 : (A.getD col []).getD j 0 = 0 := (t1 j hj).2 col hj hc
        rw [z1, z2, Gf.zero_gm]; rfl
      · show ((A.set _ _).getD i []).getD j 0 = 0
        rw [getD_set_ne _ _ _ _ _ e]
        exact (t1 j hj).2 i h1 h2
    · by_cases e : i = col + 1 + t
      · subst e
        show ((A.set _ _).getD _ []).getD col 0 = 0
        rw [getD_set_eq _ _ _ _ (by rw [s.len]; omega), addMul_get _ _ _ _ hl]
        show en A (col + 1 + t) col ^^^ Gf.gm (en A col col) (cof A col col (col + 1 + t)) = 0
        have b1 := s.byte.lt col col
        have b2 := s.byte.lt (col + 1 + t) col
        have b3 := Gf.ipow_lt (en A col col) 254
        unfold cof
        rw [Gf.gm_comm (en A col col) _ b1 (Gf.gm_lt _ _ b2), Gf.gm_assoc _ _ _ b2 b3 b1, ipow_inv _ hpv b1, Gf.gm_one _ b2]
        exact Nat.xor_self _
      · show ((A.set _ _).getD i []).getD col 0 = 0
        rw [getD_set_ne _ _ _ _ _ e]
        exact t2 i h1 (by omega)

theorem tri_swp (n col p : Nat) (U : List (List Nat)) (sU : Sq n U) (hc : col < n) (hp : p < n) (hcp : col ≤ p) (hT : Tri n col U) : Tri n col (swp [] U col p) := by
  intro j hj
  constructor
  · rw [en_swp U n col p j j sU.len hc hp, if_neg (by omega), if_neg (by omega)]; exact (hT j hj).1
  · intro i h1 h2
    rw [en_swp U n col p i j sU.len hc hp]
    by_cases a : i = col
    · rw [if_pos a]; exact (hT j hj).2 p (by omega) hp
    · rw [if_neg a]
      by_cases b : i = p
      · rw [if_pos b]; exact (hT j hj).2 col hj hc
      · rw [if_neg b]; exact (hT j hj).2 i h1 h2

/-- One column of the law's rank, all columns before it having had a pivot. -/
theorem rank_step (n col p : Nat) (m U : List (List Nat)) (sU : Sq n U) (hc : col < n) (hp : p < n) (hcp : col ≤ p) (hK : KerEq n m U) (hT : Tri n col U) (h0 : en U p col ≠ 0) :
    KerEq n m (rk (swp [] U col p) col col (n - (col + 1))) ∧ Tri n (col + 1) (rk (swp [] U col p) col col (n - (col + 1))) := by
  have s1 := sU.swp col p hc hp
  have t1 := tri_swp n col p U sU hc hp hcp hT
  have h1 : en (swp [] U col p) col col ≠ 0 := by rw [en_swp U n col p col col sU.len hc hp, if_pos rfl]; exact h0
  have k1 := hK.trans (ker_swp n col p U sU.len hc hp)
  refine ⟨k1.trans (rk_ker n col col _ s1 hc _ (by omega)), ?_⟩
  have := rk_tri n col _ s1 hc t1 h1 (n - (col + 1)) (by omega)
  intro j hj
  by_cases e : j = col
  · subst e
    refine ⟨?_, fun i h1 h2 => this.2 i h1 (by omega)⟩
    unfold en
    rw [rk_row]
    exact h1
  · exact this.1 j (by omega)

end Go.Proofs.Ytjefjlalebpodaa.Mt

namespace Go.Proofs.Ytjefjlalebpodaa.Mt
open Go.Proofs.Ytjefjlalebpodaa

/-- What is left of p behind division by (x - r). -/
def sd : List Nat → Nat → List Nat
  | [], _ => []
  | [_], _ => []
  | _ :: d :: p, r => Gf.eval (d :: p) r :: sd (d :: p) r

theorem sd_len : ∀ (p : List Nat) (r : Nat), (sd p r).length = p.length - 1
  | [], _ => rfl
  | [_], _ => rfl
  | _ :: d :: p, r => by simp [sd, sd_len (d :: p) r]

theorem sd_bytes : ∀ (p : List Nat) (r : Nat), Gf.Bytes p → Gf.Bytes (sd p r)
  | [], _, h => h
  | [_], _, _ => by intro c hc; simp [sd] at hc
  | _ :: d :: p, r, h => by
    have h' : Gf.Bytes (d :: p) := fun x hx => h x (List.mem_cons_of_mem _ hx)
    intro c hc
    rcases List.mem_cons.mp hc with rfl | hc
    · exact Gf.eval_lt _ _ h'
    · exact sd_bytes (d :: p) r h' c hc

theorem sd_eval : ∀ (p : List Nat) (r x : Nat), Gf.Bytes p → r < 256 → x < 256 → Gf.eval p x = Gf.gm (Gf.eval (sd p r) x) (x ^^^ r) ^^^ Gf.eval p r
  | [], r, x, _, _, _ => by simp [sd, Gf.eval_nil, Gf.zero_gm]
  | [c], r, x, _, _, _ => by simp [sd, Gf.eval_cons, Gf.eval_nil, Gf.zero_gm]
  | c :: d :: p, r, x, h, hr, hx => by
    have h' : Gf.Bytes (d :: p) := fun y hy => h y (List.mem_cons_of_mem _ hy)
    have ih := sd_eval (d :: p) r x h' hr hx
    have hq := Gf.eval_lt (sd (d :: p) r) x (sd_bytes _ r h')
    have he := Gf.eval_lt (d :: p) r h'
    have hxr := Gf.x_lt x r hx hr
    rw [Gf.eval_cons c (d :: p) x, Gf.eval_cons c (d :: p) r, ih]
    show _ = Gf.gm (Gf.eval (Gf.eval (d :: p) r :: sd (d :: p) r) x) (x ^^^ r) ^^^ _
    rw [Gf.eval_cons (Gf.eval (d :: p) r) (sd (d :: p) r) x]
    generalize Gf.eval (d :: p) r = e at *
    generalize Gf.eval (sd (d :: p) r) x = q at *
    rw [Gf.add_gm, Gf.add_gm (Gf.gm q x) e (x ^^^ r), Gf.gm_add e x r]
    rw [Gf.gm_assoc q (x ^^^ r) x hq hxr hx, Gf.gm_comm (x ^^^ r) x hxr hx, ← Gf.gm_assoc q x (x ^^^ r) hq hx hxr]
    have : ∀ a b c d : Nat, (a ^^^ b) ^^^ c = (a ^^^ (b ^^^ d)) ^^^ (d ^^^ c) := by
      intro a b c d
      have e1 : (a ^^^ (b ^^^ d)) ^^^ (d ^^^ c) = (a ^^^ b) ^^^ ((d ^^^ d) ^^^ c) := by ac_rfl
      rw [e1, Nat.xor_self, Nat.zero_xor]
    exact this _ _ _ _

theorem sd_zero : ∀ (p : List Nat) (r : Nat), Gf.eval p r = 0 → (∀ c ∈ sd p r, c = 0) → ∀ c ∈ p, c = 0
  | [], _, _, _ => by intro c hc; simp at hc
  | [c], r, h, _ => by
    intro x hx
    obtain rfl : x = c := by simpa using hx
    simpa [Gf.eval_cons, Gf.eval_nil, Gf.zero_gm] using h
  | c :: d :: p, r, h, hz => by
    have h1 : Gf.eval (d :: p) r = 0 := hz _ (by simp [sd])
    have ih := sd_zero (d :: p) r h1 (fun x hx => hz x (by simp [sd]; exact .inr hx))
    rw [Gf.eval_cons, h1, Gf.zero_gm, Nat.zero_xor] at h
    intro x hx
    rcases List.mem_cons.mp hx with rfl | hx
    · exact h
    · exact ih x hx

/-- As many unlike roots as coefficients: all of them are zero. -/
theorem roots : ∀ (ks p : List Nat), Gf.Bytes p → Gf.Bytes ks → ks.Nodup → p.length ≤ ks.length → (∀ k ∈ ks, Gf.eval p k = 0) → ∀ c ∈ p, c = 0
  | [], p, _, _, _, hl, _ => by
    have : p = [] := by simpa using hl
    subst this
    intro c hc; simp at hc
  | r :: ks, p, hp, hk, hd, hl, h => by
    have hr := hk r (List.mem_cons_self ..)
    have h0 := h r (List.mem_cons_self ..)
    obtain ⟨hnr, hd'⟩ := List.nodup_cons.mp hd
    refine sd_zero p r h0 ?_
    refine roots ks (sd p r) (sd_bytes p r hp) (fun x hx => hk x (List.mem_cons_of_mem _ hx)) hd' (by rw [sd_len]; simp at hl; omega) fun k hks => ?_
    have hkb := hk k (List.mem_cons_of_mem _ hks)
    have e := sd_eval p r k hp hr hkb
    rw [h k (List.mem_cons_of_mem _ hks), h0, Nat.xor_zero] at e
    have hne : k ^^^ r ≠ 0 := fun e' => hnr (by rw [(xor_zero_iff k r).mp e'] at hks; exact hks)
    exact Classical.byContradiction fun hq => Gf.gm_ne _ _ hq hne (Gf.eval_lt _ _ (sd_bytes p r hp)) (Gf.x_lt _ _ hkb hr) e.symm

/-- Horner's value is the sum of the terms. -/
theorem eval_xs (n k : Nat) (x : Nat → Nat) (hx : ∀ j, x j < 256) (hk : k < 256) : Gf.eval ((List.range n).map x) k = xs n fun j => Gf.gm (x j) (Gf.ipow k j) := by
  induction n with
  | zero => rfl
  | succ n ih =>
    rw [List.range_succ, List.map_append, List.map_singleton, Gf.eval_snoc _ _ _ (fun c hc => by obtain ⟨j, _, rfl⟩ := List.mem_map.mp hc; exact hx j) (hx n) hk, ih, List.length_map, List.length_range]
    rfl

end Go.Proofs.Ytjefjlalebpodaa.Mt

namespace Go.Proofs.Ytjefjlalebpodaa.Mt
open Go.Proofs.Ytjefjlalebpodaa

/-- The product of (x + k) for k below n, k = i left out. -/
def up (x i : Nat) : Nat → Nat
  | 0 => 1
  | n + 1 => if n = i then up x i n else Gf.gm (up x i n) (x ^^^ n)

/-- Lagrange's sum, its first n terms of N values. -/
def lgr (vs : List Nat) (N x : Nat) (n : Nat) : Nat := xs n fun i => Gf.gm (vs.getD i 0) (Gf.gm (up x i N) (Gf.ipow (up i i N) 254))

/-- The value at x of the polynomial through vs. -/
def lagr (vs : List Nat) (x : Nat) : Nat := lgr vs vs.length x vs.length

theorem up_lt (x i n : Nat) : up x i n < 256 := by
  induction n with
  | zero => simp [up]
  | succ n ih =>
    unfold up
    split
    · exact ih
    · exact Gf.gm_lt _ _ ih

theorem up_ne (x i n : Nat) (hx : x < 256) (hn : n ≤ 256) (h : ∀ k, k < n → k ≠ i → x ≠ k) : up x i n ≠ 0 := by
  induction n with
  | zero => simp [up]
  | succ n ih =>
    have ih' := ih (by omega) (fun k hk hne => h k (by omega) hne)
    unfold up
    split
    · exact ih'
    · rename_i hne
      exact Gf.gm_ne _ _ ih' (fun e => h n (by omega) hne ((xor_zero_iff x n).mp e)) (up_lt x i n) (Gf.x_lt _ _ hx (by omega))

theorem up_zero (x i n : Nat) (hx : x < n) (hi : x ≠ i) : up x i n = 0 := by
  induction n with
  | zero => omega
  | succ n ih =>
    unfold up
    by_cases e : x = n
    · subst e
      rw [if_neg hi, Nat.xor_self, Gf.gm_zero]
    · have := ih (by omega)
      split
      · exact this
      · rw [this, Gf.zero_gm]

theorem lagr_lt (vs : List Nat) (x : Nat) (hv : Gf.Bytes vs) : lagr vs x < 256 := xs_lt _ _ fun i _ => Gf.gm_lt _ _ (byte_get vs i hv)

theorem lgr_lt (vs : List Nat) (N x n : Nat) (hv : Gf.Bytes vs) : lgr vs N x n < 256 := xs_lt _ _ fun i _ => Gf.gm_lt _ _ (byte_get vs i hv)

/-- At the places themselves it has the values. -/
theorem lagr_at (vs : List Nat) (j : Nat) (hj : j < vs.length) (hv : Gf.Bytes vs) (hl : vs.length ≤ 256) : lagr vs j = vs.getD j 0 := by
  unfold lagr lgr
  rw [xs_one vs.length j _ hj (fun i hi hne => by rw [up_zero j i vs.length hj (fun e => hne e.symm), Gf.zero_gm, Gf.gm_zero])]
  have h0 := up_ne j j vs.length (by omega) hl (fun k _ hne e => hne e.symm)
  have hlt := up_lt j j vs.length
  rw [Gf.gm_comm _ _ hlt (Gf.ipow_lt _ _), ipow_inv _ h0 hlt, Gf.gm_one _ (byte_get vs j hv)]

/-- (X + r) p. -/
def lin : List Nat → Nat → List Nat
  | [], _ => []
  | c :: p, r => Gf.gm c r :: Gf.sum [c] (lin p r)

theorem sum_len' : ∀ (p q : List Nat), (Gf.sum p q).length = max p.length q.length
  | [], q => by simp [Gf.sum]
  | c :: p, [] => by simp [Gf.sum]
  | c :: p, d :: q => by simp [Gf.sum, sum_len' p q]

theorem sum_bytes' : ∀ (p q : List Nat), Gf.Bytes p → Gf.Bytes q → Gf.Bytes (Gf.sum p q)
  | [], q, _, hq => by simpa [Gf.sum] using hq
  | c :: p, [], hp, _ => by simpa [Gf.sum] using hp
  | c :: p, d :: q, hp, hq => by
    intro e he
    simp only [Gf.sum, List.mem_cons] at he
    rcases he with rfl | he
    · exact Gf.x_lt _ _ (hp c (List.mem_cons_self ..)) (hq d (List.mem_cons_self ..))
    · exact sum_bytes' p q (fun x hx => hp x (List.mem_cons_of_mem _ hx)) (fun x hx => hq x (List.mem_cons_of_mem _ hx)) e he

theorem lin_len : ∀ (p : List Nat) (r : Nat), p ≠ [] → (lin p r).length = p.length + 1
  | [], _, h => absurd rfl h
  | [c], r, _ => by simp [lin, Gf.sum]
  | c :: d :: p, r, _ => by
    have := lin_len (d :: p) r (by simp)
    rw [lin, List.length_cons, sum_len', this]
    simp

theorem lin_bytes : ∀ (p : List Nat) (r : Nat), Gf.Bytes p → Gf.Bytes (lin p r)
  | [], _, h => h
  | c :: p, r, h => by
    have hc := h c (List.mem_cons_self ..)
    intro x hx
    rcases List.mem_cons.mp hx with rfl | hx
    · exact Gf.gm_lt _ _ hc
    · exact sum_bytes' _ _ (fun y hy => (by rw [List.mem_singleton.mp hy]; exact hc)) (lin_bytes p r fun y hy => h y (List.mem_cons_of_mem _ hy)) x hx

theorem lin_eval : ∀ (p : List Nat) (r x : Nat), Gf.Bytes p → r < 256 → x < 256 → Gf.eval (lin p r) x = Gf.gm (Gf.eval p x) (x ^^^ r)
  | [], _, _, _, _, _ => by simp [lin, Gf.eval_nil, Gf.zero_gm]
  | c :: p, r, x, h, hr, hx => by
    have h' : Gf.Bytes p := fun y hy => h y (List.mem_cons_of_mem _ hy)
    have ih := lin_eval p r x h' hr hx
    have hp := Gf.eval_lt p x h'
    have hxr := Gf.x_lt x r hx hr
    have e1 : Gf.eval [c] x = c := by simp [Gf.eval_cons, Gf.eval_nil, Gf.zero_gm]
    rw [lin, Gf.eval_cons, Gf.eval_sum, ih, e1, Gf.eval_cons]
    generalize Gf.eval p x = e at *
    rw [Gf.add_gm, Gf.add_gm (Gf.gm e x) c (x ^^^ r), Gf.gm_add c x r, Gf.gm_assoc e (x ^^^ r) x hp hxr hx, Gf.gm_comm (x ^^^ r) x hxr hx, ← Gf.gm_assoc e x (x ^^^ r) hp hx hxr]
    ac_rfl

/-- The polynomial of 'up'. -/
def upP (i : Nat) : Nat → List Nat
  | 0 => [1]
  | n + 1 => if n = i then upP i n else lin (upP i n) n

theorem upP_ne (i n : Nat) : upP i n ≠ [] := by
  induction n with
  | zero => simp [upP]
  | succ n ih =>
    unfold upP
    split
    · exact ih
    · intro e
      have := congrArg List.length e
      rw [lin_len _ _ ih] at this
      simp at this

theorem upP_len (i n : Nat) : (upP i n).length = if i < n then n else n + 1 := by
  induction n with
  | zero => simp [upP]
  | succ n ih =>
    unfold upP
    by_cases e : n = i
    · rw [if_pos e, ih, if_neg (by omega), if_pos (by omega)]
    · rw [if_neg e, lin_len _ _ (upP_ne i n), ih]
      by_cases h : i < n
      · rw [if_pos h, if_pos (by omega)]
      · rw [if_neg h, if_neg (by omega)]

theorem upP_bytes (i n : Nat) : Gf.Bytes (upP i n) := by
  induction n with
  | zero => intro c hc; simp [upP] at hc; omega
  | succ n ih =>
    unfold upP
    split
    · exact ih
    · exact lin_bytes _ _ ih

theorem upP_eval (x i n : Nat) (hx : x < 256) (hn : n ≤ 256) : Gf.eval (upP i n) x = up x i n := by
  induction n with
  | zero => simp [upP, up, Gf.eval_cons, Gf.eval_nil, Gf.zero_gm]
  | succ n ih =>
    unfold upP up
    split
    · exact ih (by omega)
    · rw [lin_eval _ _ _ (upP_bytes i n) (by omega) hx, ih (by omega)]

theorem scale_eval (p : List Nat) (f x : Nat) (hp : Gf.Bytes p) (hf : f < 256) (hx : x < 256) : Gf.eval (scale p f) x = Gf.gm (Gf.eval p x) f := by
  induction p with
  | nil => simp [scale, Gf.eval_nil, Gf.zero_gm]
  | cons c p ih =>
    have h' : Gf.Bytes p := fun y hy => hp y (List.mem_cons_of_mem _ hy)
    have he := Gf.eval_lt p x h'
    show Gf.eval (Gf.gm c f :: scale p f) x = _
    rw [Gf.eval_cons, Gf.eval_cons, ih h', Gf.add_gm, Gf.gm_assoc _ _ _ he hf hx, Gf.gm_comm f x hf hx, ← Gf.gm_assoc _ _ _ he hx hf]

/-- The polynomial of Lagrange's sum. -/
def lgP (vs : List Nat) (N : Nat) : Nat → List Nat
  | 0 => []
  | n + 1 => Gf.sum (lgP vs N n) (scale (upP n N) (Gf.gm (vs.getD n 0) (Gf.ipow (up n n N) 254)))

theorem lgP_bytes (vs : List Nat) (N n : Nat) : Gf.Bytes (lgP vs N n) := by
  induction n with
  | zero => intro c hc; simp [lgP] at hc
  | succ n ih => exact sum_bytes' _ _ ih (scale_bytes _ _ (upP_bytes n N))

theorem lgP_len (vs : List Nat) (N n : Nat) (h : n ≤ N) : (lgP vs N n).length ≤ N := by
  induction n with
  | zero => simp [lgP]
  | succ n ih =>
    rw [lgP, sum_len', scale_len, upP_len, if_pos (by omega)]
    have := ih (by omega)
    omega

theorem lgP_eval (vs : List Nat) (N n x : Nat) (hv : Gf.Bytes vs) (hN : N ≤ 256) (hx : x < 256) : Gf.eval (lgP vs N n) x = lgr vs N x n := by
  induction n with
  | zero => rfl
  | succ n ih =>
    have h1 := byte_get vs n hv
    have h2 := Gf.ipow_lt (up n n N) 254
    have h3 := up_lt x n N
    have e : Gf.gm (up x n N) (Gf.gm (vs.getD n 0) (Gf.ipow (up n n N) 254)) = Gf.gm (vs.getD n 0) (Gf.gm (up x n N) (Gf.ipow (up n n N) 254)) := by
      rw [← Gf.gm_assoc _ _ _ h3 h1 h2, Gf.gm_comm (up x n N) _ h3 h1, Gf.gm_assoc _ _ _ h1 h3 h2]
    rw [lgP, Gf.eval_sum, ih, scale_eval _ _ _ (upP_bytes n N) (Gf.gm_lt _ _ h1) hx, upP_eval x n N hx hN, e]
    rfl

theorem sum_get : ∀ (p q : List Nat) (j : Nat), (Gf.sum p q).getD j 0 = p.getD j 0 ^^^ q.getD j 0
  | [], q, j => by simp [Gf.sum]
  | c :: p, [], j => by simp [Gf.sum]
  | c :: p, d :: q, 0 => by simp [Gf.sum]
  | c :: p, d :: q, j + 1 => by simp only [Gf.sum, List.getD_cons_succ]; exact sum_get p q j

/-- Every polynomial with these values at 0, 1, 2, .. has Lagrange's value everywhere. -/
theorem lagr_of (p vs : List Nat) (x : Nat) (hp : Gf.Bytes p) (hv : Gf.Bytes vs) (hl : p.length ≤ vs.length) (hn : vs.length ≤ 256) (hx : x < 256) (h : ∀ i, i < vs.length → Gf.eval p i = vs.getD i 0) : Gf.eval p x = lagr vs x := by
  have hb := sum_bytes' p (lgP vs vs.length vs.length) hp (lgP_bytes vs _ _)
  have hz := roots (List.range vs.length) (Gf.sum p (lgP vs vs.length vs.length)) hb (fun k hk => by have := List.mem_range.mp hk; omega) List.nodup_range
    (by rw [sum_len', List.length_range]; have := lgP_len vs vs.length vs.length (Nat.le_refl _); omega) fun k hk => by
      have hk' := List.mem_range.mp hk
      rw [Gf.eval_sum, lgP_eval vs vs.length vs.length k hv hn (by omega), h k hk']
      have := lagr_at vs k hk' hv hn
      unfold lagr at this
      rw [this]
      exact Nat.xor_self _
  have e : Gf.eval (Gf.sum p (lgP vs vs.length vs.length)) x = 0 := by
    have : ∀ q : List Nat, (∀ c ∈ q, c = 0) → Gf.eval q x = 0 := by
      intro q
      induction q with
      | nil => intro _; rfl
      | cons c q ih => intro hq; rw [Gf.eval_cons, ih (fun y hy => hq y (List.mem_cons_of_mem _ hy)), hq c (List.mem_cons_self ..), Gf.zero_gm]; rfl
    exact this _ hz
  rw [Gf.eval_sum, lgP_eval vs vs.length vs.length x hv hn hx] at e
  exact (xor_zero_iff _ _).mp e

end Go.Proofs.Ytjefjlalebpodaa.Mt
