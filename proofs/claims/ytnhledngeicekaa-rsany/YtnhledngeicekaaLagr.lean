/-
  The value at x of the one polynomial that has given values at 0, 1, 2, ..: Lagrange's sum, and that it is the value of every such polynomial.
-/
import Derived.Test.YtnhledngeicekaaPoly
import Derived.Test.YtnhledngeicekaaMatR
namespace Go.Proofs.Ytnhledngeicekaa.Mt
open Go.Proofs.Ytnhledngeicekaa

/-- The product of (x + k) for k below n, k = i left out. -/
def up (x i : Nat) : Nat → Nat
  | 0 => 1
  | n + 1 => if n = i then up x i n else Gf.gm (up x i n) (x ^^^ n)

/-- Lagrange's sum, its first n terms of N values. -/
def lgr (vs : List Nat) (N x : Nat) (n : Nat) : Nat := xs n fun i => Gf.gm (vs.getD i 0) (Gf.gm (up x i N) (Gf.ipow (up i i N) 254))

/-- The value at x of the polynomial through vs. -/
def lagr (vs : List Nat) (x : Nat) : Nat := lgr vs vs.length x vs.length

theorem up_lt (x i n : Nat) : up x i n < 256 := by
  induction n with
  | zero => simp [up]
  | succ n ih =>
    unfold up
    split
    · exact ih
    · exact Gf.gm_lt _ _ ih

theorem up_ne (x i n : Nat) (hx : x < 256) (hn : n ≤ 256) (h : ∀ k, k < n → k ≠ i → x ≠ k) : up x i n ≠ 0 := by
  induction n with
  | zero => simp [up]
  | succ n ih =>
    have ih' := ih (by omega) (fun k hk hne => h k (by omega) hne)
    unfold up
    split
    · exact ih'
    · rename_i hne
      exact Gf.gm_ne _ _ ih' (fun e => h n (by omega) hne ((xor_zero_iff x n).mp e)) (up_lt x i n) (Gf.x_lt _ _ hx (by omega))

theorem up_zero (x i n : Nat) (hx : x < n) (hi : x ≠ i) : up x i n = 0 := by
  induction n with
  | zero => omega
  | succ n ih =>
    unfold up
    by_cases e : x = n
    · subst e
      rw [if_neg hi, Nat.xor_self, Gf.gm_zero]
    · have := ih (by omega)
      split
      · exact this
      · rw [this, Gf.zero_gm]

theorem lagr_lt (vs : List Nat) (x : Nat) (hv : Gf.Bytes vs) : lagr vs x < 256 := xs_lt _ _ fun i _ => Gf.gm_lt _ _ (byte_get vs i hv)

theorem lgr_lt (vs : List Nat) (N x n : Nat) (hv : Gf.Bytes vs) : lgr vs N x n < 256 := xs_lt _ _ fun i _ => Gf.gm_lt _ _ (byte_get vs i hv)

/-- At the places themselves it has the values. -/
theorem lagr_at (vs : List Nat) (j : Nat) (hj : j < vs.length) (hv : Gf.Bytes vs) (hl : vs.length ≤ 256) : lagr vs j = vs.getD j 0 := by
  unfold lagr lgr
  rw [xs_one vs.length j _ hj (fun i hi hne => by rw [up_zero j i vs.length hj (fun e => hne e.symm), Gf.zero_gm, Gf.gm_zero])]
  have h0 := up_ne j j vs.length (by omega) hl (fun k _ hne e => hne e.symm)
  have hlt := up_lt j j vs.length
  rw [Gf.gm_comm _ _ hlt (Gf.ipow_lt _ _), ipow_inv _ h0 hlt, Gf.gm_one _ (byte_get vs j hv)]

/-- (X + r) p. -/
def lin : List Nat → Nat → List Nat
  | [], _ => []
  | c :: p, r => Gf.gm c r :: Gf.sum [c] (lin p r)

theorem sum_len' : ∀ (p q : List Nat), (Gf.sum p q).length = max p.length q.length
  | [], q => by simp [Gf.sum]
  | c :: p, [] => by simp [Gf.sum]
  | c :: p, d :: q => by simp [Gf.sum, sum_len' p q]

theorem sum_bytes' : ∀ (p q : List Nat), Gf.Bytes p → Gf.Bytes q → Gf.Bytes (Gf.sum p q)
  | [], q, _, hq => by simpa [Gf.sum] using hq
  | c :: p, [], hp, _ => by simpa [Gf.sum] using hp
  | c :: p, d :: q, hp, hq => by
    intro e he
    simp only [Gf.sum, List.mem_cons] at he
    rcases he with rfl | he
    · exact Gf.x_lt _ _ (hp c (List.mem_cons_self ..)) (hq d (List.mem_cons_self ..))
    · exact sum_bytes' p q (fun x hx => hp x (List.mem_cons_of_mem _ hx)) (fun x hx => hq x (List.mem_cons_of_mem _ hx)) e he

theorem lin_len : ∀ (p : List Nat) (r : Nat), p ≠ [] → (lin p r).length = p.length + 1
  | [], _, h => absurd rfl h
  | [c], r, _ => by simp [lin, Gf.sum]
  | c :: d :: p, r, _ => by
    have := lin_len (d :: p) r (by simp)
    rw [lin, List.length_cons, sum_len', this]
    simp

theorem lin_bytes : ∀ (p : List Nat) (r : Nat), Gf.Bytes p → Gf.Bytes (lin p r)
  | [], _, h => h
  | c :: p, r, h => by
    have hc := h c (List.mem_cons_self ..)
    intro x hx
    rcases List.mem_cons.mp hx with rfl | hx
    · exact Gf.gm_lt _ _ hc
    · exact sum_bytes' _ _ (fun y hy => (by rw [List.mem_singleton.mp hy]; exact hc)) (lin_bytes p r fun y hy => h y (List.mem_cons_of_mem _ hy)) x hx

theorem lin_eval : ∀ (p : List Nat) (r x : Nat), Gf.Bytes p → r < 256 → x < 256 → Gf.eval (lin p r) x = Gf.gm (Gf.eval p x) (x ^^^ r)
  | [], _, _, _, _, _ => by simp [lin, Gf.eval_nil, Gf.zero_gm]
  | c :: p, r, x, h, hr, hx => by
    have h' : Gf.Bytes p := fun y hy => h y (List.mem_cons_of_mem _ hy)
    have ih := lin_eval p r x h' hr hx
    have hp := Gf.eval_lt p x h'
    have hxr := Gf.x_lt x r hx hr
    have e1 : Gf.eval [c] x = c := by simp [Gf.eval_cons, Gf.eval_nil, Gf.zero_gm]
    rw [lin, Gf.eval_cons, Gf.eval_sum, ih, e1, Gf.eval_cons]
    generalize Gf.eval p x = e at *
    rw [Gf.add_gm, Gf.add_gm (Gf.gm e x) c (x ^^^ r), Gf.gm_add c x r, Gf.gm_assoc e (x ^^^ r) x hp hxr hx, Gf.gm_comm (x ^^^ r) x hxr hx, ← Gf.gm_assoc e x (x ^^^ r) hp hx hxr]
    ac_rfl

/-- The polynomial of 'up'. -/
def upP (i : Nat) : Nat → List Nat
  | 0 => [1]
  | n + 1 => if n = i then upP i n else lin (upP i n) n

theorem upP_ne (i n : Nat) : upP i n ≠ [] := by
  induction n with
  | zero => simp [upP]
  | succ n ih =>
    unfold upP
    split
    · exact ih
    · intro e
      have := congrArg List.length e
      rw [lin_len _ _ ih] at this
      simp at this

theorem upP_len (i n : Nat) : (upP i n).length = if i < n then n else n + 1 := by
  induction n with
  | zero => simp [upP]
  | succ n ih =>
    unfold upP
    by_cases e : n = i
    · rw [if_pos e, ih, if_neg (by omega), if_pos (by omega)]
    · rw [if_neg e, lin_len _ _ (upP_ne i n), ih]
      by_cases h : i < n
      · rw [if_pos h, if_pos (by omega)]
      · rw [if_neg h, if_neg (by omega)]

theorem upP_bytes (i n : Nat) : Gf.Bytes (upP i n) := by
  induction n with
  | zero => intro c hc; simp [upP] at hc; omega
  | succ n ih =>
    unfold upP
    split
    · exact ih
    · exact lin_bytes _ _ ih

theorem upP_eval (x i n : Nat) (hx : x < 256) (hn : n ≤ 256) : Gf.eval (upP i n) x = up x i n := by
  induction n with
  | zero => simp [upP, up, Gf.eval_cons, Gf.eval_nil, Gf.zero_gm]
  | succ n ih =>
    unfold upP up
    split
    · exact ih (by omega)
    · rw [lin_eval _ _ _ (upP_bytes i n) (by omega) hx, ih (by omega)]

theorem scale_eval (p : List Nat) (f x : Nat) (hp : Gf.Bytes p) (hf : f < 256) (hx : x < 256) : Gf.eval (scale p f) x = Gf.gm (Gf.eval p x) f := by
  induction p with
  | nil => simp [scale, Gf.eval_nil, Gf.zero_gm]
  | cons c p ih =>
    have h' : Gf.Bytes p := fun y hy => hp y (List.mem_cons_of_mem _ hy)
    have he := Gf.eval_lt p x h'
    show Gf.eval (Gf.gm c f :: scale p f) x = _
    rw [Gf.eval_cons, Gf.eval_cons, ih h', Gf.add_gm, Gf.gm_assoc _ _ _ he hf hx, Gf.gm_comm f x hf hx, ← Gf.gm_assoc _ _ _ he hx hf]

/-- The polynomial of Lagrange's sum. -/
def lgP (vs : List Nat) (N : Nat) : Nat → List Nat
  | 0 => []
  | n + 1 => Gf.sum (lgP vs N n) (scale (upP n N) (Gf.gm (vs.getD n 0) (Gf.ipow (up n n N) 254)))

theorem lgP_bytes (vs : List Nat) (N n : Nat) : Gf.Bytes (lgP vs N n) := by
  induction n with
  | zero => intro c hc; simp [lgP] at hc
  | succ n ih => exact sum_bytes' _ _ ih (scale_bytes _ _ (upP_bytes n N))

theorem lgP_len (vs : List Nat) (N n : Nat) (h : n ≤ N) : (lgP vs N n).length ≤ N := by
  induction n with
  | zero => simp [lgP]
  | succ n ih =>
    rw [lgP, sum_len', scale_len, upP_len, if_pos (by omega)]
    have := ih (by omega)
    omega

theorem lgP_eval (vs : List Nat) (N n x : Nat) (hv : Gf.Bytes vs) (hN : N ≤ 256) (hx : x < 256) : Gf.eval (lgP vs N n) x = lgr vs N x n := by
  induction n with
  | zero => rfl
  | succ n ih =>
    have h1 := byte_get vs n hv
    have h2 := Gf.ipow_lt (up n n N) 254
    have h3 := up_lt x n N
    have e : Gf.gm (up x n N) (Gf.gm (vs.getD n 0) (Gf.ipow (up n n N) 254)) = Gf.gm (vs.getD n 0) (Gf.gm (up x n N) (Gf.ipow (up n n N) 254)) := by
      rw [← Gf.gm_assoc _ _ _ h3 h1 h2, Gf.gm_comm (up x n N) _ h3 h1, Gf.gm_assoc _ _ _ h1 h3 h2]
    rw [lgP, Gf.eval_sum, ih, scale_eval _ _ _ (upP_bytes n N) (Gf.gm_lt _ _ h1) hx, upP_eval x n N hx hN, e]
    rfl

theorem sum_get : ∀ (p q : List Nat) (j : Nat), (Gf.sum p q).getD j 0 = p.getD j 0 ^^^ q.getD j 0
  | [], q, j => by simp [Gf.sum]
  | c :: p, [], j => by simp [Gf.sum]
  | c :: p, d :: q, 0 => by simp [Gf.sum]
  | c :: p, d :: q, j + 1 => by simp only [Gf.sum, List.getD_cons_succ]; exact sum_get p q j

/-- Every polynomial with these values at 0, 1, 2, .. has Lagrange's value everywhere. -/
theorem lagr_of (p vs : List Nat) (x : Nat) (hp : Gf.Bytes p) (hv : Gf.Bytes vs) (hl : p.length ≤ vs.length) (hn : vs.length ≤ 256) (hx : x < 256) (h : ∀ i, i < vs.length → Gf.eval p i = vs.getD i 0) : Gf.eval p x = lagr vs x := by
  have hb := sum_bytes' p (lgP vs vs.length vs.length) hp (lgP_bytes vs _ _)
  have hz := roots (List.range vs.length) (Gf.sum p (lgP vs vs.length vs.length)) hb (fun k hk => by have := List.mem_range.mp hk; omega) List.nodup_range
    (by rw [sum_len', List.length_range]; have := lgP_len vs vs.length vs.length (Nat.le_refl _); omega) fun k hk => by
      have hk' := List.mem_range.mp hk
      rw [Gf.eval_sum, lgP_eval vs vs.length vs.length k hv hn (by omega), h k hk']
      have := lagr_at vs k hk' hv hn
      unfold lagr at this
      rw [this]
      exact Nat.xor_self _
  have e : Gf.eval (Gf.sum p (lgP vs vs.length vs.length)) x = 0 := by
    have : ∀ q : List Nat, (∀ c ∈ q, c = 0) → Gf.eval q x = 0 := by
      intro q
      induction q with
      | nil => intro _; rfl
      | cons c q ih => intro hq; rw [Gf.eval_cons, ih (fun y hy => hq y (List.mem_cons_of_mem _ hy)), hq c (List.mem_cons_self ..), Gf.zero_gm]; rfl
    exact this _ hz
  rw [Gf.eval_sum, lgP_eval vs vs.length vs.length x hv hn hx] at e
  exact (xor_zero_iff _ _).mp e

end Go.Proofs.Ytnhledngeicekaa.Mt
