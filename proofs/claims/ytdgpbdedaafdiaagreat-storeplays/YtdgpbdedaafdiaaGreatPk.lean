/-
  Numbers and texts as bytes, in plain numbers: seven bits a byte, the lowest first; and how they are read again. No text of the program is named here.
-/
import Derived.Test.YtdgpbdedaafdiaaGreatGf
namespace Go.Proofs.YtdgpbdedaafdiaaGreat.Pk
open Go.Proofs.YtdgpbdedaafdiaaGreat.Gf

/-! ## Writing -/

/-- The bytes of u, at most n + 1 of them. -/
def encN : Nat → Nat → List Nat
  | 0, u => [u]
  | n + 1, u => if u < 128 then [u] else (u % 128 + 128) :: encN n (u / 128)

theorem encN_small (n u : Nat) (h : u < 128) : encN n u = [u] := by
  cases n with
  | zero => rfl
  | succ n => show (if u < 128 then [u] else _) = _; rw [if_pos h]

theorem encN_big (n u : Nat) (h : ¬ u < 128) : encN (n + 1) u = (u % 128 + 128) :: encN n (u / 128) := by
  show (if u < 128 then [u] else _) = _
  rw [if_neg h]

theorem encN_len (n : Nat) : ∀ u, 0 < (encN n u).length ∧ (encN n u).length ≤ n + 1 := by
  induction n with
  | zero => intro u; simp [encN]
  | succ n ih =>
    intro u
    by_cases h : u < 128
    · rw [encN_small _ _ h]; simp
    · rw [encN_big _ _ h]
      have := ih (u / 128)
      simp
      omega

theorem encN_bytes (n : Nat) : ∀ u, u < 128 ^ (n + 1) → Bytes (encN n u) := by
  induction n with
  | zero => intro u hu c hc; simp [encN] at hc; omega
  | succ n ih =>
    intro u hu c hc
    by_cases h : u < 128
    · rw [encN_small _ _ h] at hc; simp at hc; omega
    · rw [encN_big _ _ h] at hc
      rcases List.mem_cons.mp hc with rfl | hc
      · omega
      · refine ih (u / 128) ?_ c hc
        rw [Nat.pow_succ] at hu
        omega

/-- The sign goes into the lowest bit. -/
def fold (n : Int) : Nat := if n < 0 then (2 * (-1 - n) + 1).toNat else (2 * n).toNat

def unf (u : Nat) : Int := if u % 2 = 1 then -1 - ((u / 2 : Nat) : Int) else ((u / 2 : Nat) : Int)

theorem fold_neg (n : Int) (h : n < 0) : fold n = (2 * (-1 - n) + 1).toNat := by unfold fold; rw [if_pos h]
theorem fold_pos (n : Int) (h : ¬ n < 0) : fold n = (2 * n).toNat := by unfold fold; rw [if_neg h]
theorem unf_odd (u : Nat) (h : u % 2 = 1) : unf u = -1 - ((u / 2 : Nat) : Int) := by unfold unf; rw [if_pos h]
theorem unf_even (u : Nat) (h : ¬ u % 2 = 1) : unf u = ((u / 2 : Nat) : Int) := by unfold unf; rw [if_neg h]
theorem unf_zero : unf 0 = 0 := rfl

theorem unf_fold (n : Int) : unf (fold n) = n := by
  by_cases h : n < 0
  · rw [fold_neg n h, unf_odd _ (by omega)]; omega
  · rw [fold_pos n h, unf_even _ (by omega)]; omega

theorem fold_lt (n : Int) (h0 : -9223372036854775808 ≤ n) (h1 : n ≤ 9223372036854775807) : fold n < 18446744073709551616 := by
  by_cases h : n < 0
  · rw [fold_neg n h]; omega
  · rw [fold_pos n h]; omega

theorem unf_range (u : Nat) (h : u < 18446744073709551616) : -9223372036854775808 ≤ unf u ∧ unf u ≤ 9223372036854775807 := by
  by_cases hu : u % 2 = 1
  · rw [unf_odd u hu]; omega
  · rw [unf_even u hu]; omega

/-- A number's bytes. -/
def num (n : Int) : List Nat := encN 9 (fold n)

theorem num_len (n : Int) : 0 < (num n).length ∧ (num n).length ≤ 10 := encN_len 9 (fold n)

theorem num_bytes (n : Int) (h0 : -9223372036854775808 ≤ n) (h1 : n ≤ 9223372036854775807) : Bytes (num n) :=
  encN_bytes 9 _ (Nat.lt_of_lt_of_le (fold_lt n h0 h1) (by decide))

/-- A text's bytes. -/
def txt (s : List Nat) : List Nat := num (s.length : Int) ++ s

theorem txt_len (s : List Nat) : 0 < (txt s).length ∧ (txt s).length ≤ 10 + s.length := by
  have := num_len (s.length : Int)
  unfold txt
  rw [List.length_append]
  omega

/-! ## Reading -/

/-- The number that begins at byte i, u being what is ahead; and how many bytes it takes (none: 0). -/
def rdA (i u : Nat) : List Nat → Nat × Nat
  | [] => (0, 0)
  | x :: xs => if i = 9 ∧ 1 < x then (0, 0) else if 128 ≤ x then rdA (i + 1) (u + x % 128 * 2 ^ (7 * i)) xs else if x = 0 ∧ 0 < i then (0, 0) else (u + x % 128 * 2 ^ (7 * i), i + 1)

def rd (bs : List Nat) : Nat × Nat := rdA 0 0 bs

theorem rdA_over (i u x : Nat) (xs : List Nat) (h : i = 9 ∧ 1 < x) : rdA i u (x :: xs) = (0, 0) := by unfold rdA; rw [if_pos h]
theorem rdA_on (i u x : Nat) (xs : List Nat) (h : ¬ (i = 9 ∧ 1 < x)) (hx : 128 ≤ x) : rdA i u (x :: xs) = rdA (i + 1) (u + x % 128 * 2 ^ (7 * i)) xs := by
  conv => lhs; unfold rdA
  rw [if_neg h, if_pos hx]
theorem rdA_long (i u x : Nat) (xs : List Nat) (h : ¬ (i = 9 ∧ 1 < x)) (hx : ¬ 128 ≤ x) (h0 : x = 0 ∧ 0 < i) : rdA i u (x :: xs) = (0, 0) := by unfold rdA; rw [if_neg h, if_neg hx, if_pos h0]
theorem rdA_end (i u x : Nat) (xs : List Nat) (h : ¬ (i = 9 ∧ 1 < x)) (hx : ¬ 128 ≤ x) (h0 : ¬ (x = 0 ∧ 0 < i)) : rdA i u (x :: xs) = (u + x % 128 * 2 ^ (7 * i), i + 1) := by unfold rdA; rw [if_neg h, if_neg hx, if_neg h0]

theorem step_lt (i u x : Nat) (hu : u < 2 ^ (7 * i)) : u + x % 128 * 2 ^ (7 * i) < 2 ^ (7 * (i + 1)) := by
  have h1 : (2 : Nat) ^ (7 * (i + 1)) = 128 * 2 ^ (7 * i) := by rw [Nat.mul_add, Nat.pow_add, Nat.mul_comm]
  have h2 : x % 128 * 2 ^ (7 * i) ≤ 127 * 2 ^ (7 * i) := Nat.mul_le_mul_right _ (by omega)
  omega

theorem rdA_bound (bs : List Nat) : ∀ i u, i ≤ 9 → u < 2 ^ (7 * i) → (rdA i u bs = (0, 0) ∨ (i < (rdA i u bs).2 ∧ (rdA i u bs).2 ≤ i + bs.length ∧ (rdA i u bs).1 < 18446744073709551616)) := by
  induction bs with
  | nil => intro i u _ _; exact .inl rfl
  | cons x xs ih =>
    intro i u hi hu
    by_cases h : i = 9 ∧ 1 < x
    · exact .inl (rdA_over i u x xs h)
    · by_cases hx : 128 ≤ x
      · rw [rdA_on i u x xs h hx]
        have hi' : i + 1 ≤ 9 := by
          rcases Nat.lt_or_ge i 9 with h9 | h9
          · omega
          · exact absurd ⟨by omega, by omega⟩ h
        rcases ih (i + 1) _ hi' (step_lt i u x hu) with h' | ⟨h1, h2, h3⟩
        · exact .inl h'
        · exact .inr ⟨by omega, by simp; omega, h3⟩
      · by_cases h0 : x = 0 ∧ 0 < i
        · exact .inl (rdA_long i u x xs h hx h0)
        · rw [rdA_end i u x xs h hx h0]
          refine .inr ⟨by simp, by simp, ?_⟩
          show u + x % 128 * 2 ^ (7 * i) < _
          by_cases h9 : i = 9
          · subst h9
            have : x % 128 ≤ 1 := by omega
            have h2 : x % 128 * 2 ^ (7 * 9) ≤ 1 * 2 ^ (7 * 9) := Nat.mul_le_mul_right _ this
            have h3 : (2 : Nat) ^ (7 * 9) = 9223372036854775808 := by decide
            omega
          · have h1 := step_lt i u x hu
            have h2 : (2 : Nat) ^ (7 * (i + 1)) ≤ 2 ^ 63 := Nat.pow_le_pow_right (by omega) (by omega)
            omega

theorem rd_bound (bs : List Nat) : (rd bs).2 ≤ bs.length ∧ (rd bs).1 < 18446744073709551616 ∧ ((rd bs).2 = 0 → (rd bs).1 = 0) := by
  unfold rd
  rcases rdA_bound bs 0 0 (by omega) (by decide) with h | ⟨h1, h2, h3⟩
  · rw [h]; simp
  · exact ⟨by omega, h3, fun h => by omega⟩

/-- What was written is read again. -/
theorem rdA_enc (n : Nat) : ∀ v i u rest, v < 128 ^ (n + 1) → i + n ≤ 9 → (0 < i → 0 < v) → v * 2 ^ (7 * i) < 18446744073709551616 →
    rdA i u (encN n v ++ rest) = (u + v * 2 ^ (7 * i), i + (encN n v).length) := by
  induction n with
  | zero =>
    intro v i u rest hv hi h0 hb
    show rdA i u (v :: rest) = _
    have hv' : v < 128 := by simpa using hv
    have h9 : ¬ (i = 9 ∧ 1 < v) := by
      rintro ⟨rfl, h⟩
      have : 2 * 2 ^ (7 * 9) ≤ v * 2 ^ (7 * 9) := Nat.mul_le_mul_right _ h
      have h3 : (2 : Nat) ^ (7 * 9) = 9223372036854775808 := by decide
      omega
    rw [rdA_end i u v rest h9 (by omega) (fun h => by have := h0 h.2; omega), Nat.mod_eq_of_lt hv']
    rfl
  | succ n ih =>
    intro v i u rest hv hi h0 hb
    by_cases h : v < 128
    · rw [encN_small _ _ h]
      show rdA i u (v :: rest) = _
      rw [rdA_end i u v rest (by omega) (by omega) (fun h' => by have := h0 h'.2; omega), Nat.mod_eq_of_lt h]
      rfl
    · rw [encN_big _ _ h]
      have hpow : (2 : Nat) ^ (7 * (i + 1)) = 128 * 2 ^ (7 * i) := by rw [Nat.mul_add, Nat.pow_add, Nat.mul_comm]
      have hdiv : v = v % 128 + 128 * (v / 128) := by omega
      have hval : v % 128 * 2 ^ (7 * i) + v / 128 * 2 ^ (7 * (i + 1)) = v * 2 ^ (7 * i) := by
        rw [hpow, ← Nat.mul_assoc, ← Nat.add_mul]
        congr 1
        omega
      show rdA i u ((v % 128 + 128) :: (encN n (v / 128) ++ rest)) = _
      rw [rdA_on i u _ _ (by omega) (by omega)]
      rw [ih (v / 128) (i + 1) _ rest (by rw [Nat.pow_succ] at hv; omega) (by omega) (fun _ => by omega) (by omega)]
      have e1 : (v % 128 + 128) % 128 = v % 128 := by omega
      rw [e1, Nat.add_assoc, hval]
      simp
      omega

theorem rd_num (n : Int) (rest : List Nat) (h0 : -9223372036854775808 ≤ n) (h1 : n ≤ 9223372036854775807) : rd (num n ++ rest) = (fold n, (num n).length) := by
  have hf := fold_lt n h0 h1
  have := rdA_enc 9 (fold n) 0 0 rest (Nat.lt_of_lt_of_le hf (by decide)) (by omega) (by omega) (by simpa using hf)
  unfold rd num
  rw [this]
  simp

/-! ## The same by the reference: the end first, then the value from the highest on -/

def val : List Nat → Nat
  | [] => 0
  | c :: cs => c % 128 + 128 * val cs

theorem val_app (cs : List Nat) (x : Nat) : val (cs ++ [x]) = val cs + x % 128 * 2 ^ (7 * cs.length) := by
  induction cs with
  | nil => simp [val]
  | cons c cs ih =>
    show c % 128 + 128 * val (cs ++ [x]) = c % 128 + 128 * val cs + _
    rw [ih, List.length_cons, Nat.mul_add 7, Nat.pow_add]
    have : x % 128 * (2 ^ (7 * cs.length) * 2 ^ (7 * 1)) = 128 * (x % 128 * 2 ^ (7 * cs.length)) := by
      rw [show (2 : Nat) ^ (7 * 1) = 128 by decide, ← Nat.mul_assoc, Nat.mul_comm]
    omega

theorem val_lt (cs : List Nat) : val cs < 2 ^ (7 * cs.length) := by
  induction cs with
  | nil => simp [val]
  | cons c cs ih =>
    have hpow : (2 : Nat) ^ (7 * (cs.length + 1)) = 128 * 2 ^ (7 * cs.length) := by rw [Nat.mul_add, Nat.pow_add, Nat.mul_comm]
    show c % 128 + 128 * val cs < 2 ^ (7 * (cs.length + 1))
    omega

theorem rdA_run (cs : List Nat) : ∀ i u rest, (∀ c ∈ cs, 128 ≤ c) → i + cs.length ≤ 9 → rdA i u (cs ++ rest) = rdA (i + cs.length) (u + val cs * 2 ^ (7 * i)) rest := by
  induction cs with
  | nil => intro i u rest _ _; simp [val]
  | cons c cs ih =>
    intro i u rest hc hi
    rw [List.length_cons] at hi ⊢
    show rdA i u (c :: (cs ++ rest)) = _
    rw [rdA_on i u c _ (by omega) (hc c (by simp)), ih (i + 1) _ rest (fun x hx => hc x (by simp [hx])) (by omega)]
    have hpow : (2 : Nat) ^ (7 * (i + 1)) = 128 * 2 ^ (7 * i) := by rw [Nat.mul_add, Nat.pow_add, Nat.mul_comm]
    have e : val (c :: cs) * 2 ^ (7 * i) = c % 128 * 2 ^ (7 * i) + val cs * 2 ^ (7 * (i + 1)) := by
      show (c % 128 + 128 * val cs) * 2 ^ (7 * i) = _
      rw [hpow, Nat.add_mul, Nat.mul_comm 128 (val cs), Nat.mul_assoc]
    rw [e, show i + 1 + cs.length = i + (cs.length + 1) by omega, Nat.add_assoc u]

theorem split_at (ps : List Nat) (n : Nat) (h : n < ps.length) : ps = ps.take n ++ ps.getD n 0 :: ps.drop (n + 1) := by
  have e : ps.drop n = ps.getD n 0 :: ps.drop (n + 1) := by
    rw [List.drop_eq_getElem_cons h, List.getD_eq_getElem?_getD, List.getElem?_eq_getElem h]; rfl
  rw [← e, List.take_append_drop]

theorem take_high (ps : List Nat) (n : Nat) (hn : n ≤ ps.length) (h : ∀ j, j < n → 128 ≤ ps.getD j 0) : ∀ c ∈ ps.take n, 128 ≤ c := by
  intro c hc
  obtain ⟨j, hj, rfl⟩ := List.mem_iff_getElem.mp hc
  have hj' : j < n := by rw [List.length_take] at hj; omega
  have := h j hj'
  rw [List.getD_eq_getElem?_getD, List.getElem?_eq_getElem (by omega)] at this
  simpa using this

theorem rd_high (ps : List Nat) (n : Nat) (hn : n ≤ ps.length) (h9 : n ≤ 9) (h : ∀ j, j < n → 128 ≤ ps.getD j 0) : rd ps = rdA n (val (ps.take n)) (ps.drop n) := by
  have e : (ps.take n).length = n := by rw [List.length_take]; omega
  have := rdA_run (ps.take n) 0 0 (ps.drop n) (take_high ps n hn h) (by omega)
  rw [List.take_append_drop, e] at this
  unfold rd
  rw [this]
  simp

theorem rd_none (ps : List Nat) (n : Nat) (hn : n ≤ ps.length) (h : ∀ j, j < n → 128 ≤ ps.getD j 0) (hend : (n = ps.length ∧ n ≤ 10) ∨ n = 10) : rd ps = (0, 0) := by
  by_cases h9 : n ≤ 9
  · rw [rd_high ps n hn h9 h]
    have : n = ps.length := by omega
    rw [this, List.drop_length]
    rfl
  · obtain rfl : n = 10 := by omega
    rw [rd_high ps 9 (by omega) (by omega) (fun j hj => h j (by omega))]
    have e : ps.drop 9 = ps.getD 9 0 :: ps.drop 10 := by
      have := split_at ps 9 (by omega)
      rw [List.drop_eq_getElem_cons (by omega), List.getD_eq_getElem?_getD, List.getElem?_eq_getElem (by omega)]; rfl
    rw [e]
    exact rdA_over 9 _ _ _ ⟨rfl, by have := h 9 (by omega); omega⟩

theorem val_take (ps : List Nat) (n : Nat) (h : n < ps.length) : val (ps.take (n + 1)) = val (ps.take n) + ps.getD n 0 % 128 * 2 ^ (7 * n) := by
  have e : ps.take (n + 1) = ps.take n ++ [ps.getD n 0] := by
    rw [List.take_succ_eq_append_getElem h, List.getD_eq_getElem?_getD, List.getElem?_eq_getElem h]; rfl
  rw [e, val_app, List.length_take, Nat.min_eq_left (by omega)]

theorem rd_some (ps : List Nat) (n : Nat) (hn : n < ps.length) (h9 : n ≤ 9) (h : ∀ j, j < n → 128 ≤ ps.getD j 0) (hx : ps.getD n 0 < 128) :
    rd ps = if 18446744073709551616 ≤ val (ps.take (n + 1)) ∨ (0 < n ∧ ps.getD n 0 = 0) then (0, 0) else (val (ps.take (n + 1)), n + 1) := by
  rw [rd_high ps n (by omega) h9 h]
  have e : ps.drop n = ps.getD n 0 :: ps.drop (n + 1) := by
    rw [List.drop_eq_getElem_cons hn, List.getD_eq_getElem?_getD, List.getElem?_eq_getElem hn]; rfl
  have hl := val_lt (ps.take n)
  rw [List.length_take, Nat.min_eq_left (by omega)] at hl
  have hv := val_take ps n hn
  rw [e]
  generalize ps.getD n 0 = x at *
  generalize val (ps.take n) = u at *
  rw [Nat.mod_eq_of_lt hx] at hv
  by_cases ho : n = 9 ∧ 1 < x
  · obtain ⟨rfl, h1⟩ := ho
    have h2 : 2 * 2 ^ (7 * 9) ≤ x * 2 ^ (7 * 9) := Nat.mul_le_mul_right _ h1
    have h3 : (2 : Nat) ^ (7 * 9) = 9223372036854775808 := by decide
    rw [rdA_over 9 u x _ ⟨rfl, h1⟩, if_pos (.inl (by rw [hv]; omega))]
  · have hsm : ¬ 18446744073709551616 ≤ val (ps.take (n + 1)) := by
      by_cases h9' : n = 9
      · subst h9'
        have h2 : x * 2 ^ (7 * 9) ≤ 1 * 2 ^ (7 * 9) := Nat.mul_le_mul_right _ (by omega)
        have h3 : (2 : Nat) ^ (7 * 9) = 9223372036854775808 := by decide
        omega
      · have h1 := step_lt n u x hl
        rw [Nat.mod_eq_of_lt hx] at h1
        have h2 : (2 : Nat) ^ (7 * (n + 1)) ≤ 2 ^ 63 := Nat.pow_le_pow_right (by omega) (by omega)
        omega
    by_cases h0 : x = 0 ∧ 0 < n
    · rw [rdA_long n u x _ ho (by omega) h0, if_pos (.inr ⟨h0.2, h0.1⟩)]
    · rw [rdA_end n u x _ ho (by omega) h0, if_neg (by rintro (h' | h'); exact hsm h'; exact h0 ⟨h'.2, h'.1⟩), Nat.mod_eq_of_lt hx, hv]

/-- The value from byte i on. -/
def vf (ps : List Nat) (i : Nat) : Nat := val (ps.drop i)

theorem vf_end (ps : List Nat) : vf ps ps.length = 0 := by unfold vf; rw [List.drop_length]; rfl
theorem vf_step (ps : List Nat) (i : Nat) (h : i < ps.length) : vf ps i = ps.getD i 0 % 128 + 128 * vf ps (i + 1) := by
  unfold vf
  have e : ps.drop i = ps.getD i 0 :: ps.drop (i + 1) := by
    rw [List.drop_eq_getElem_cons h, List.getD_eq_getElem?_getD, List.getElem?_eq_getElem h]; rfl
  rw [e]
  rfl

/-! ## A reader: what is left, and whether it is invalid -/

abbrev St := List Nat × Bool

def vN (s : St) : Int := unf (rd s.1).1
def nN (s : St) : St := if (rd s.1).2 = 0 then ([], true) else (s.1.drop (rd s.1).2, s.2)

theorem vN_range (s : St) : -9223372036854775808 ≤ vN s ∧ vN s ≤ 9223372036854775807 := unf_range _ (rd_bound s.1).2.1
theorem vN_none (s : St) (h : (rd s.1).2 = 0) : vN s = 0 := by unfold vN; rw [(rd_bound s.1).2.2 h]; rfl
theorem nN_none (s : St) (h : (rd s.1).2 = 0) : nN s = ([], true) := by unfold nN; rw [if_pos h]
theorem nN_some (s : St) (h : ¬ (rd s.1).2 = 0) : nN s = (s.1.drop (rd s.1).2, s.2) := by unfold nN; rw [if_neg h]
theorem nN_len (s : St) : (nN s).1.length ≤ s.1.length := by
  by_cases h : (rd s.1).2 = 0
  · rw [nN_none s h]; simp
  · rw [nN_some s h]; simp

def badT (s : St) : Bool := decide (vN s < 0) || decide (((nN s).1.length : Int) < vN s)
def vT (s : St) : List Nat := if badT s = true then [] else (nN s).1.take (vN s).toNat
def nT (s : St) : St := if badT s = true then ([], true) else ((nN s).1.drop (vN s).toNat, (nN s).2)

theorem vT_bad (s : St) (h : badT s = true) : vT s = [] := by unfold vT; rw [if_pos h]
theorem nT_bad (s : St) (h : badT s = true) : nT s = ([], true) := by unfold nT; rw [if_pos h]
theorem vT_good (s : St) (h : badT s = false) : vT s = (nN s).1.take (vN s).toNat := by unfold vT; rw [h]; rfl
theorem nT_good (s : St) (h : badT s = false) : nT s = ((nN s).1.drop (vN s).toNat, (nN s).2) := by unfold nT; rw [h]; rfl
theorem badT_no (s : St) (h : badT s = false) : 0 ≤ vN s ∧ vN s ≤ ((nN s).1.length : Int) := by
  unfold badT at h
  simp at h
  omega
theorem badT_yes (s : St) (h : badT s = true) : vN s < 0 ∨ ((nN s).1.length : Int) < vN s := by
  unfold badT at h
  simpa using h
theorem badT_mk (s : St) (h : vN s < 0 ∨ ((nN s).1.length : Int) < vN s) : badT s = true := by
  unfold badT
  simpa using h
theorem badT_mkno (s : St) (h : 0 ≤ vN s ∧ vN s ≤ ((nN s).1.length : Int)) : badT s = false := by
  unfold badT
  simp
  omega

def badC (s : St) (m : Int) : Bool := decide (vN s < 0) || decide (m < vN s)
def vC (s : St) (m : Int) : Int := if badC s m = true then 0 else vN s
def nC (s : St) (m : Int) : St := if badC s m = true then ([], true) else nN s

theorem vC_bad (s : St) (m : Int) (h : badC s m = true) : vC s m = 0 := by unfold vC; rw [if_pos h]
theorem nC_bad (s : St) (m : Int) (h : badC s m = true) : nC s m = ([], true) := by unfold nC; rw [if_pos h]
theorem vC_good (s : St) (m : Int) (h : badC s m = false) : vC s m = vN s := by unfold vC; rw [h]; rfl
theorem nC_good (s : St) (m : Int) (h : badC s m = false) : nC s m = nN s := by unfold nC; rw [h]; rfl

/-! ## Written and read again -/

theorem vN_num (n : Int) (rest : List Nat) (b : Bool) (h0 : -9223372036854775808 ≤ n) (h1 : n ≤ 9223372036854775807) : vN (num n ++ rest, b) = n ∧ nN (num n ++ rest, b) = (rest, b) := by
  have h := rd_num n rest h0 h1
  have hl := num_len n
  constructor
  · show unf (rd (num n ++ rest)).1 = n
    rw [h]
    exact unf_fold n
  · rw [nN_some _ (by show ¬ (rd (num n ++ rest)).2 = 0; rw [h]; show ¬ (num n).length = 0; omega)]
    show ((num n ++ rest).drop (rd (num n ++ rest)).2, b) = _
    rw [h]
    show ((num n ++ rest).drop (num n).length, b) = _
    rw [List.drop_left]

theorem vT_txt (s rest : List Nat) (b : Bool) (h : s.length ≤ 1000000000) : vT (txt s ++ rest, b) = s ∧ nT (txt s ++ rest, b) = (rest, b) := by
  have hn := vN_num (s.length : Int) (s ++ rest) b (by omega) (by omega)
  have e : txt s ++ rest = num (s.length : Int) ++ (s ++ rest) := by unfold txt; rw [List.append_assoc]
  rw [e]
  have hg : badT (num (s.length : Int) ++ (s ++ rest), b) = false := by
    refine badT_mkno _ ?_
    rw [hn.1, hn.2]
    simp
    omega
  constructor
  · rw [vT_good _ hg, hn.1, hn.2]
    simp
  · rw [nT_good _ hg, hn.1, hn.2]
    simp

/-- No number's bytes are the beginning of another's. -/
theorem num_apart (a b : Int) (rest : List Nat) (ha0 : -9223372036854775808 ≤ a) (ha1 : a ≤ 9223372036854775807) (hb0 : -9223372036854775808 ≤ b) (hb1 : b ≤ 9223372036854775807) (h : num b = num a ++ rest) : a = b := by
  have h1 := (vN_num a rest false ha0 ha1).1
  have h2 := (vN_num b [] false hb0 hb1).1
  rw [List.append_nil, h] at h2
  rw [← h1, ← h2]

theorem txt_apart (s t rest : List Nat) (hs : s.length ≤ 1000000000) (ht : t.length ≤ 1000000000) (h : txt t = txt s ++ rest) : s = t := by
  have h1 := (vT_txt s rest false hs).1
  have h2 := (vT_txt t [] false ht).1
  rw [List.append_nil, h] at h2
  rw [← h1, ← h2]

theorem num_take (a b : Int) (ha0 : -9223372036854775808 ≤ a) (ha1 : a ≤ 9223372036854775807) (hb0 : -9223372036854775808 ≤ b) (hb1 : b ≤ 9223372036854775807) : (num b).take (num a).length = num a ↔ a = b := by
  constructor
  · intro h
    refine num_apart a b ((num b).drop (num a).length) ha0 ha1 hb0 hb1 ?_
    conv => lhs; rw [← List.take_append_drop (num a).length (num b), h]
  · rintro rfl
    exact List.take_length

theorem txt_take (s t : List Nat) (hs : s.length ≤ 1000000000) (ht : t.length ≤ 1000000000) : (txt t).take (txt s).length = txt s ↔ s = t := by
  constructor
  · intro h
    refine txt_apart s t ((txt t).drop (txt s).length) hs ht ?_
    conv => lhs; rw [← List.take_append_drop (txt s).length (txt t), h]
  · rintro rfl
    exact List.take_length

end Go.Proofs.YtdgpbdedaafdiaaGreat.Pk

namespace Go.Proofs.YtdgpbdedaafdiaaGreat
open Go.Proofs.YtdgpbdedaafdiaaGreat.Gf

/-- An invalid Reader has nothing left. -/
def Pk.Ok (s : Pk.St) : Prop := s.2 = true → s.1 = []

theorem Pk.ok_none (s : Pk.St) (h : Pk.Ok s) (hb : s.2 = true) : (Pk.rd s.1).2 = 0 := by rw [h hb]; rfl

theorem Pk.vT_none (s : Pk.St) (h : (Pk.rd s.1).2 = 0) : Pk.vT s = [] ∧ Pk.nT s = ([], true) := by
  have hv := Pk.vN_none s h
  have hn := Pk.nN_none s h
  have hg : Pk.badT s = false := Pk.badT_mkno s (by rw [hv, hn]; simp)
  rw [Pk.vT_good s hg, Pk.nT_good s hg, hv, hn]
  simp

theorem Pk.vC_none (s : Pk.St) (m : Int) (h : (Pk.rd s.1).2 = 0) : Pk.vC s m = 0 ∧ Pk.nC s m = ([], true) := by
  have hv := Pk.vN_none s h
  have hn := Pk.nN_none s h
  by_cases hb : Pk.badC s m = true
  · rw [Pk.vC_bad s m hb, Pk.nC_bad s m hb]; simp
  · have hb' : Pk.badC s m = false := by simpa using hb
    rw [Pk.vC_good s m hb', Pk.nC_good s m hb', hv, hn]; simp

def encs (zs : List Int) : List Nat := (zs.map Pk.num).flatten
def txts (m : List (List Nat)) : List Nat := (m.map Pk.txt).flatten
def lens (m : List (List Nat)) : Nat := (m.map List.length).sum

theorem takeI {α : Type} (zs : List α) (d : α) (j : Nat) (h : j < zs.length) : zs.take (j + 1) = zs.take j ++ [zs.getD j d] := by
  rw [List.take_succ_eq_append_getElem h, List.getD_eq_getElem?_getD, List.getElem?_eq_getElem h]; rfl

theorem dropI {α : Type} (zs : List α) (d : α) (j : Nat) (h : j < zs.length) : zs.drop j = zs.getD j d :: zs.drop (j + 1) := by
  rw [List.drop_eq_getElem_cons h, List.getD_eq_getElem?_getD, List.getElem?_eq_getElem h]; rfl

theorem encs_snoc (zs : List Int) (j : Nat) (h : j < zs.length) : encs (zs.take (j + 1)) = encs (zs.take j) ++ Pk.num (zs.getD j 0) := by
  rw [takeI zs 0 j h]; simp [encs]
theorem txts_snoc (m : List (List Nat)) (j : Nat) (h : j < m.length) : txts (m.take (j + 1)) = txts (m.take j) ++ Pk.txt (m.getD j []) := by
  rw [takeI m [] j h]; simp [txts]
theorem lens_snoc (m : List (List Nat)) (j : Nat) (h : j < m.length) : lens (m.take (j + 1)) = lens (m.take j) + (m.getD j []).length := by
  rw [takeI m [] j h]; simp [lens]
theorem encs_drop (zs : List Int) (j : Nat) (h : j < zs.length) : encs (zs.drop j) = Pk.num (zs.getD j 0) ++ encs (zs.drop (j + 1)) := by
  rw [dropI zs 0 j h]; simp [encs]
theorem txts_drop (m : List (List Nat)) (j : Nat) (h : j < m.length) : txts (m.drop j) = Pk.txt (m.getD j []) ++ txts (m.drop (j + 1)) := by
  rw [dropI m [] j h]; simp [txts]

theorem encs_len : ∀ zs : List Int, (encs zs).length ≤ 10 * zs.length
  | [] => by simp [encs]
  | z :: zs => by
    have h := encs_len zs
    have := (Pk.num_len z).2
    show ((Pk.num z) ++ encs zs).length ≤ _
    rw [List.length_append, List.length_cons]
    omega

theorem txts_len : ∀ m : List (List Nat), (txts m).length ≤ 10 * m.length + lens m
  | [] => by simp [txts]
  | s :: m => by
    have h := txts_len m
    have := (Pk.txt_len s).2
    show ((Pk.txt s) ++ txts m).length ≤ _
    have e : lens (s :: m) = s.length + lens m := by simp [lens]
    rw [List.length_append, List.length_cons, e]
    omega

theorem lens_take (m : List (List Nat)) (j : Nat) : lens (m.take j) ≤ lens m := by
  have : lens m = lens (m.take j) + lens (m.drop j) := by
    have e : (m.take j ++ m.drop j).map List.length = (m.take j).map List.length ++ (m.drop j).map List.length := List.map_append
    rw [List.take_append_drop] at e
    unfold lens
    rw [e, List.sum_append]
  omega

theorem lens_drop (m : List (List Nat)) (j : Nat) : lens (m.drop j) ≤ lens m := by
  have : lens m = lens (m.take j) + lens (m.drop j) := by
    have e : (m.take j ++ m.drop j).map List.length = (m.take j).map List.length ++ (m.drop j).map List.length := List.map_append
    rw [List.take_append_drop] at e
    unfold lens
    rw [e, List.sum_append]
  omega

theorem lens_row (m : List (List Nat)) (j : Nat) (h : j < m.length) : (m.getD j []).length ≤ lens m := by
  have := lens_snoc m j h
  have := lens_take m (j + 1)
  omega

end Go.Proofs.YtdgpbdedaafdiaaGreat
