/-
  Rows and matrices over GF(256) in plain numbers: sums, products, equations; what a row operation keeps.
-/
import Derived.Test.YtnhledngeicekaaGf
namespace Go.Proofs.Ytnhledngeicekaa.Mt
open Go.Proofs.Ytnhledngeicekaa

theorem byte_get (ps : List Nat) (k : Nat) (h : Gf.Bytes ps) : ps.getD k 0 < 256 := by
  rw [List.getD_eq_getElem?_getD]
  by_cases hk : k < ps.length
  · rw [List.getElem?_eq_getElem hk]; exact h _ (List.getElem_mem _)
  · rw [List.getElem?_eq_none (by omega)]; simp

theorem getD_out (ps : List Nat) (k : Nat) (h : ps.length ≤ k) : ps.getD k 0 = 0 := by
  rw [List.getD_eq_getElem?_getD, List.getElem?_eq_none h]; rfl

/-- row + f * other. -/
def addMul : List Nat → List Nat → Nat → List Nat
  | [], _, _ => []
  | c :: r, [], _ => c :: r
  | c :: r, d :: q, f => (c ^^^ Gf.gm d f) :: addMul r q f

theorem addMul_nil (r : List Nat) (f : Nat) : addMul r [] f = r := by cases r <;> rfl

theorem addMul_len : ∀ (r q : List Nat) (f : Nat), (addMul r q f).length = r.length
  | [], _, _ => rfl
  | c :: r, [], _ => rfl
  | c :: r, d :: q, f => by simp [addMul, addMul_len r q f]

theorem addMul_get : ∀ (r q : List Nat) (f j : Nat), q.length ≤ r.length → (addMul r q f).getD j 0 = r.getD j 0 ^^^ Gf.gm (q.getD j 0) f
  | [], [], f, j, _ => by simp [addMul, Gf.zero_gm]
  | [], d :: q, f, j, h => by simp at h
  | c :: r, [], f, j, _ => by simp [addMul, Gf.zero_gm]
  | c :: r, d :: q, f, 0, _ => by simp [addMul]
  | c :: r, d :: q, f, j + 1, h => by
    simp only [addMul, List.getD_cons_succ]
    exact addMul_get r q f j (by simpa using h)

theorem addMul_set : ∀ (r q : List Nat) (f k : Nat), k < q.length → k < r.length →
    addMul r (q.take (k + 1)) f = (addMul r (q.take k) f).set k ((addMul r (q.take k) f).getD k 0 ^^^ Gf.gm (q.getD k 0) f)
  | [], _, _, _, _, h => by simp at h
  | c :: r, [], _, _, h, _ => by simp at h
  | c :: r, d :: q, f, 0, _, _ => by simp [addMul, addMul_nil]
  | c :: r, d :: q, f, k + 1, h, h' => by
    have ih := addMul_set r q f k (by simpa using h) (by simpa using h')
    simp only [List.take_succ_cons, addMul, List.set_cons_succ, List.getD_cons_succ]
    rw [ih]

theorem addMul_zero : ∀ (r q : List Nat), addMul r q 0 = r
  | [], _ => rfl
  | c :: r, [] => rfl
  | c :: r, d :: q => by simp [addMul, addMul_zero r q, Gf.gm_zero]

theorem addMul_bytes : ∀ (r q : List Nat) (f : Nat), Gf.Bytes r → Gf.Bytes q → Gf.Bytes (addMul r q f)
  | [], _, _, h, _ => h
  | c :: r, [], _, h, _ => h
  | c :: r, d :: q, f, h, h' => by
    intro x hx
    rcases List.mem_cons.mp hx with rfl | hx
    · exact Gf.x_lt _ _ (h c (List.mem_cons_self ..)) (Gf.gm_lt _ _ (h' d (List.mem_cons_self ..)))
    · exact addMul_bytes r q f (fun y hy => h y (List.mem_cons_of_mem _ hy)) (fun y hy => h' y (List.mem_cons_of_mem _ hy)) x hx

/-- f * row, done for the first k. -/
def scaleK : List Nat → Nat → Nat → List Nat
  | [], _, _ => []
  | c :: r, _, 0 => c :: r
  | c :: r, f, k + 1 => Gf.gm c f :: scaleK r f k
def scale (r : List Nat) (f : Nat) : List Nat := r.map fun c => Gf.gm c f

theorem scaleK_zero (r : List Nat) (f : Nat) : scaleK r f 0 = r := by cases r <;> rfl
theorem scaleK_all : ∀ (r : List Nat) (f : Nat), scaleK r f r.length = scale r f
  | [], _ => rfl
  | c :: r, f => by simp only [List.length_cons, scaleK, scaleK_all r f]; rfl
theorem scaleK_len : ∀ (r : List Nat) (f k : Nat), (scaleK r f k).length = r.length
  | [], _, _ => rfl
  | c :: r, _, 0 => rfl
  | c :: r, f, k + 1 => by simp [scaleK, scaleK_len r f k]
theorem scaleK_at : ∀ (r : List Nat) (f k : Nat), (scaleK r f k).getD k 0 = r.getD k 0
  | [], _, _ => rfl
  | c :: r, _, 0 => rfl
  | c :: r, f, k + 1 => by simp only [scaleK, List.getD_cons_succ, scaleK_at r f k]
theorem scaleK_set : ∀ (r : List Nat) (f k : Nat), k < r.length → scaleK r f (k + 1) = (scaleK r f k).set k (Gf.gm (r.getD k 0) f)
  | [], _, _, h => by simp at h
  | c :: r, f, 0, _ => by simp [scaleK, scaleK_zero]
  | c :: r, f, k + 1, h => by
    have ih := scaleK_set r f k (by simpa using h)
    simp only [scaleK, List.set_cons_succ, List.getD_cons_succ] at ih ⊢
    rw [ih]
theorem scale_len (r : List Nat) (f : Nat) : (scale r f).length = r.length := by simp [scale]
theorem scale_get (r : List Nat) (f j : Nat) : (scale r f).getD j 0 = Gf.gm (r.getD j 0) f := by
  unfold scale
  rw [List.getD_eq_getElem?_getD, List.getElem?_map, List.getD_eq_getElem?_getD]
  cases r[j]? <;> simp [Gf.zero_gm]
theorem scale_bytes (r : List Nat) (f : Nat) (h : Gf.Bytes r) : Gf.Bytes (scale r f) := by
  intro x hx
  obtain ⟨c, hc, rfl⟩ := List.mem_map.mp hx
  exact Gf.gm_lt _ _ (h c hc)

end Go.Proofs.Ytnhledngeicekaa.Mt
