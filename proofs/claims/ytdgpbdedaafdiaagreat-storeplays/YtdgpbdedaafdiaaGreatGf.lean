/-
  The arithmetic of GF(256) in plain numbers: a product by doubling, the reference's product, powers, logarithms, and that they are those of a field. No text of the program is named here.
-/
namespace Go.Proofs.YtdgpbdedaafdiaaGreat.Gf

/-! ## Sums -/

theorem x_mod (n a b : Nat) : (a ^^^ b) % 2 ^ n = (a % 2 ^ n) ^^^ (b % 2 ^ n) := Nat.xor_mod_two_pow
theorem x_div (n a b : Nat) : (a ^^^ b) / 2 ^ n = (a / 2 ^ n) ^^^ (b / 2 ^ n) := by
  simp only [← Nat.shiftRight_eq_div_pow, Nat.shiftRight_xor_distrib]
theorem x_mul (n a b : Nat) : (a ^^^ b) * 2 ^ n = (a * 2 ^ n) ^^^ (b * 2 ^ n) := by
  simp only [← Nat.shiftLeft_eq, Nat.shiftLeft_xor_distrib]
theorem x_lt (a b : Nat) (ha : a < 256) (hb : b < 256) : a ^^^ b < 256 := Nat.xor_lt_two_pow (n := 8) ha hb
theorem x_swap (a b c d : Nat) : (a ^^^ b) ^^^ (c ^^^ d) = (a ^^^ c) ^^^ (b ^^^ d) := by ac_rfl
theorem x_bit (n a b : Nat) : (a ^^^ b) / 2 ^ n % 2 = (a / 2 ^ n % 2) ^^^ (b / 2 ^ n % 2) := by
  rw [x_div]; exact x_mod 1 _ _
theorem bit_cases (x : Nat) : x % 2 = 0 ∨ x % 2 = 1 := by omega

/-- Additive. -/
def Lin (f : Nat → Nat) : Prop := ∀ x y, f (x ^^^ y) = f x ^^^ f y

theorem Lin.zero {f : Nat → Nat} (h : Lin f) : f 0 = 0 := by
  have := h 0 0
  rw [Nat.xor_self, Nat.xor_self] at this
  exact this

theorem Lin.comp {f g : Nat → Nat} (hf : Lin f) (hg : Lin g) : Lin (fun x => f (g x)) := fun x y => by
  show f (g (x ^^^ y)) = f (g x) ^^^ f (g y)
  rw [hg, hf]

theorem Lin.xor {f g : Nat → Nat} (hf : Lin f) (hg : Lin g) : Lin (fun x => f x ^^^ g x) := fun x y => by
  show f (x ^^^ y) ^^^ g (x ^^^ y) = _
  rw [hf, hg, x_swap]

theorem lin_bit (n c : Nat) : Lin (fun b => if b / 2 ^ n % 2 = 1 then c else 0) := fun x y => by
  show (if (x ^^^ y) / 2 ^ n % 2 = 1 then c else 0) = (if x / 2 ^ n % 2 = 1 then c else 0) ^^^ (if y / 2 ^ n % 2 = 1 then c else 0)
  rw [x_bit]
  rcases bit_cases (x / 2 ^ n) with h | h <;> rcases bit_cases (y / 2 ^ n) with h' | h' <;> rw [h, h'] <;> simp

theorem split_bit (n b : Nat) (h : 2 ^ n ≤ b) (h' : b < 2 ^ (n + 1)) : b = 2 ^ n ^^^ (b - 2 ^ n) := by
  apply Nat.eq_of_testBit_eq
  intro i
  rw [Nat.testBit_xor, Nat.testBit_two_pow]
  have e : b = 2 ^ n + (b - 2 ^ n) := by omega
  have hl : b - 2 ^ n < 2 ^ n := by have : 2 ^ (n + 1) = 2 ^ n * 2 := Nat.pow_succ 2 n; omega
  rcases Nat.lt_trichotomy i n with hi | hi | hi
  · have hne : decide (n = i) = false := by simp; omega
    rw [hne, Bool.false_xor]
    conv => lhs; rw [e, Nat.testBit_two_pow_add_gt hi]
  · subst hi
    rw [e, Nat.testBit_two_pow_add_eq, Nat.add_sub_cancel_left, Nat.testBit_lt_two_pow hl]; simp
  · have h1 : b.testBit i = false := Nat.testBit_lt_two_pow (Nat.lt_of_lt_of_le h' (Nat.pow_le_pow_right (by omega) hi))
    have h2 : (b - 2 ^ n).testBit i = false := Nat.testBit_lt_two_pow (Nat.lt_of_lt_of_le hl (Nat.pow_le_pow_right (by omega) (by omega)))
    rw [h1, h2]; simp; omega

/-- Two additive functions that agree on the powers of x agree. -/
theorem lin_ext {f g : Nat → Nat} (hf : Lin f) (hg : Lin g) (m : Nat) (h : ∀ i < m, f (2 ^ i) = g (2 ^ i)) : ∀ b, b < 2 ^ m → f b = g b := by
  induction m with
  | zero => intro b hb; have : b = 0 := by simpa using hb
            rw [this, hf.zero, hg.zero]
  | succ n ih =>
    intro b hb
    by_cases hn : b < 2 ^ n
    · exact ih (fun i hi => h i (by omega)) b hn
    · have e := split_bit n b (by omega) hb
      have hl : b - 2 ^ n < 2 ^ n := by have : 2 ^ (n + 1) = 2 ^ n * 2 := Nat.pow_succ 2 n; omega
      rw [e, hf, hg, h n (by omega), ih (fun i hi => h i (by omega)) _ hl]

/-! ## Products -/

/-- Twice an element: modulo x^8 + x^4 + x^3 + x^2 + 1. -/
def dbl (a : Nat) : Nat := (a * 2 ^ 1 % 2 ^ 8) ^^^ (if a / 2 ^ 7 % 2 = 1 then 29 else 0)

theorem dbl_lin : Lin dbl := Lin.xor (f := fun a => a * 2 ^ 1 % 2 ^ 8) (fun x y => by simp only [x_mul, x_mod]) (lin_bit 7 29)

theorem dbl_lt (a : Nat) : dbl a < 256 := by
  unfold dbl
  refine x_lt _ _ ?_ ?_
  · omega
  · split <;> omega

/-- The product by n steps of doubling. -/
def gmN : Nat → Nat → Nat → Nat
  | 0, _, _ => 0
  | n + 1, a, b => (if b / 2 ^ 0 % 2 = 1 then a else 0) ^^^ gmN n (dbl a) (b / 2 ^ 1)

def gm (a b : Nat) : Nat := gmN 8 a b

theorem gmN_right (n : Nat) : ∀ a, Lin (gmN n a) := by
  induction n with
  | zero => intro a x y; simp [gmN]
  | succ n ih => intro a; exact Lin.xor (lin_bit 0 a) (Lin.comp (ih (dbl a)) (x_div 1))

theorem gmN_left (n : Nat) : ∀ b, Lin (fun a => gmN n a b) := by
  induction n with
  | zero => intro b x y; simp [gmN]
  | succ n ih =>
    intro b
    refine Lin.xor (f := fun a => if b / 2 ^ 0 % 2 = 1 then a else 0) ?_ (Lin.comp (ih (b / 2 ^ 1)) dbl_lin)
    intro x y
    show (if b / 2 ^ 0 % 2 = 1 then x ^^^ y else 0) = (if b / 2 ^ 0 % 2 = 1 then x else 0) ^^^ (if b / 2 ^ 0 % 2 = 1 then y else 0)
    split <;> simp

theorem gm_right (a : Nat) : Lin (gm a) := gmN_right 8 a
theorem gm_left (b : Nat) : Lin (fun a => gm a b) := gmN_left 8 b

theorem gmN_lt (n : Nat) : ∀ a b, a < 256 → gmN n a b < 256 := by
  induction n with
  | zero => intro a b _; simp [gmN]
  | succ n ih => intro a b h; exact x_lt _ _ (by split <;> omega) (ih _ _ (dbl_lt a))

theorem gm_lt (a b : Nat) (ha : a < 256) : gm a b < 256 := gmN_lt 8 a b ha

theorem gmN_zero (n a : Nat) : gmN n a 0 = 0 := (gmN_right n a).zero
theorem gm_zero (a : Nat) : gm a 0 = 0 := gmN_zero 8 a
theorem zero_gm (b : Nat) : gm 0 b = 0 := (gm_left b).zero

/-- The reference's product: in full, by b's lowest n bits. -/
def fullN (a b : Nat) : Nat → Nat
  | 0 => 0
  | n + 1 => fullN a b n ^^^ (if b / 2 ^ n % 2 = 1 then a * 2 ^ n else 0)

/-- The rest, n steps from the highest bit on. -/
def restN (l : Nat) : Nat → Nat
  | 0 => l
  | n + 1 => restN l n ^^^ (if restN l n / 2 ^ (14 - n) % 2 = 1 then 285 * 2 ^ (6 - n) else 0)

def refMul (a b : Nat) : Nat := restN (fullN a b 8) 7 % 2 ^ 8

theorem fullN_right (a n : Nat) : Lin (fun b => fullN a b n) := by
  induction n with
  | zero => intro x y; simp [fullN]
  | succ n ih => exact Lin.xor ih (lin_bit n (a * 2 ^ n))

theorem fullN_left (b n : Nat) : Lin (fun a => fullN a b n) := by
  induction n with
  | zero => intro x y; simp [fullN]
  | succ n ih =>
    refine Lin.xor (g := fun a => if b / 2 ^ n % 2 = 1 then a * 2 ^ n else 0) ih ?_
    intro x y
    show (if b / 2 ^ n % 2 = 1 then (x ^^^ y) * 2 ^ n else 0) = (if b / 2 ^ n % 2 = 1 then x * 2 ^ n else 0) ^^^ (if b / 2 ^ n % 2 = 1 then y * 2 ^ n else 0)
    split
    · exact x_mul n x y
    · simp

theorem restN_lin (n : Nat) : Lin (fun l => restN l n) := by
  induction n with
  | zero => intro x y; rfl
  | succ n ih => exact Lin.xor ih (Lin.comp (lin_bit (14 - n) (285 * 2 ^ (6 - n))) ih)

theorem mod_lin : Lin (fun l => l % 2 ^ 8) := x_mod 8
theorem refMul_right (a : Nat) : Lin (refMul a) := Lin.comp (g := fun b => restN (fullN a b 8) 7) mod_lin (Lin.comp (restN_lin 7) (fullN_right a 8))
theorem refMul_left (b : Nat) : Lin (fun a => refMul a b) := Lin.comp mod_lin (Lin.comp (restN_lin 7) (fullN_left b 8))

theorem ref_eq (a b : Nat) (ha : a < 256) (hb : b < 256) : refMul a b = gm a b := by
  refine lin_ext (refMul_right a) (gm_right a) 8 (fun i hi => ?_) b hb
  refine lin_ext (refMul_left (2 ^ i)) (gm_left (2 ^ i)) 8 (fun j hj => ?_) a ha
  have : ∀ i < 8, ∀ j < 8, refMul (2 ^ j) (2 ^ i) = gm (2 ^ j) (2 ^ i) := by decide +kernel
  exact this i hi j hj

theorem gm_comm (a b : Nat) (ha : a < 256) (hb : b < 256) : gm a b = gm b a := by
  refine lin_ext (gm_right a) (gm_left a) 8 (fun i hi => ?_) b hb
  refine lin_ext (gm_left (2 ^ i)) (gm_right (2 ^ i)) 8 (fun j hj => ?_) a ha
  have : ∀ i < 8, ∀ j < 8, gm (2 ^ j) (2 ^ i) = gm (2 ^ i) (2 ^ j) := by decide +kernel
  exact this i hi j hj

theorem gm_assoc (a b c : Nat) (ha : a < 256) (hb : b < 256) (hc : c < 256) : gm (gm a b) c = gm a (gm b c) := by
  refine lin_ext (gm_right (gm a b)) (Lin.comp (gm_right a) (gm_right b)) 8 (fun i hi => ?_) c hc
  refine lin_ext (Lin.comp (gm_left (2 ^ i)) (gm_right a)) (Lin.comp (gm_right a) (gm_left (2 ^ i))) 8 (fun j hj => ?_) b hb
  refine lin_ext (Lin.comp (gm_left (2 ^ i)) (gm_left (2 ^ j))) (gm_left (gm (2 ^ j) (2 ^ i))) 8 (fun k hk => ?_) a ha
  have : ∀ i < 8, ∀ j < 8, ∀ k < 8, gm (gm (2 ^ k) (2 ^ j)) (2 ^ i) = gm (2 ^ k) (gm (2 ^ j) (2 ^ i)) := by decide +kernel
  exact this i hi j hj k hk

theorem gm_one (a : Nat) (ha : a < 256) : gm a 1 = a := by
  refine lin_ext (g := fun x => x) (gm_left 1) (fun _ _ => rfl) 8 (fun i hi => ?_) a ha
  have : ∀ i < 8, gm (2 ^ i) 1 = 2 ^ i := by decide +kernel
  exact this i hi

theorem one_gm (a : Nat) (ha : a < 256) : gm 1 a = a := by rw [gm_comm 1 a (by omega) ha, gm_one a ha]

theorem gm_two (a : Nat) (ha : a < 256) : gm a 2 = dbl a := by
  refine lin_ext (gm_left 2) dbl_lin 8 (fun i hi => ?_) a ha
  have : ∀ i < 8, gm (2 ^ i) 2 = dbl (2 ^ i) := by decide +kernel
  exact this i hi

theorem gm_add (a b c : Nat) : gm a (b ^^^ c) = gm a b ^^^ gm a c := gm_right a b c
theorem add_gm (a b c : Nat) : gm (a ^^^ b) c = gm a c ^^^ gm b c := gm_left c a b

/-! ## Powers and logarithms -/

def pw : Nat → Nat
  | 0 => 1
  | n + 1 => dbl (pw n)

theorem pw_lt (n : Nat) : pw n < 256 := by
  cases n with
  | zero => simp [pw]
  | succ n => exact dbl_lt _

theorem pw_add (m n : Nat) : gm (pw m) (pw n) = pw (m + n) := by
  induction n with
  | zero => exact gm_one _ (pw_lt m)
  | succ n ih =>
    have h1 : pw (n + 1) = gm (pw n) 2 := (gm_two _ (pw_lt n)).symm
    have h2 : pw (m + (n + 1)) = gm (pw (m + n)) 2 := (gm_two _ (pw_lt (m + n))).symm
    rw [h1, h2, ← ih, gm_assoc _ _ _ (pw_lt m) (pw_lt n) (by omega)]

/-- The first 255 powers, from n on. -/
def pws : Nat → Nat → List Nat
  | 0, _ => []
  | k + 1, x => x :: pws k (dbl x)

theorem pws_get (k : Nat) : ∀ (i m : Nat), i < k → (pws k (pw m))[i]? = some (pw (m + i)) := by
  induction k with
  | zero => intro i m h; omega
  | succ k ih =>
    intro i m h
    cases i with
    | zero => rfl
    | succ i =>
      show (pws k (dbl (pw m)))[i]? = _
      have : dbl (pw m) = pw (m + 1) := rfl
      rw [this, ih i (m + 1) (by omega)]
      congr 2; omega

def plist : List Nat := pws 255 1
theorem plist_get (i : Nat) (h : i < 255) : plist[i]? = some (pw i) := by
  have := pws_get 255 i 0 h
  rw [Nat.zero_add] at this
  exact this
theorem plist_len : plist.length = 255 := by decide +kernel

/-- The logarithm: the place in the list of powers. -/
def lg (a : Nat) : Nat := plist.idxOf a

theorem lg_facts : (List.range 255).all (fun i => lg (i + 1) < 255 && plist[lg (i + 1)]? == some (i + 1)) = true := by decide +kernel
theorem pw_facts : (List.range 255).all (fun i => lg (plist.getD i 0) == i) = true := by decide +kernel
theorem pw255 : pw 255 = 1 := by
  have h : plist[254]? = some 142 := by decide +kernel
  rw [plist_get 254 (by omega)] at h
  have h' : pw 254 = 142 := Option.some.inj h
  show dbl (pw 254) = 1
  rw [h']; decide +kernel

theorem lg_lt (a : Nat) (h0 : a ≠ 0) (h : a < 256) : lg a < 255 := by
  have := List.all_eq_true.mp lg_facts (a - 1) (List.mem_range.mpr (by omega))
  rw [show a - 1 + 1 = a by omega] at this
  simp at this
  exact this.1

theorem pw_lg (a : Nat) (h0 : a ≠ 0) (h : a < 256) : pw (lg a) = a := by
  have := List.all_eq_true.mp lg_facts (a - 1) (List.mem_range.mpr (by omega))
  rw [show a - 1 + 1 = a by omega] at this
  simp only [Bool.and_eq_true, beq_iff_eq] at this
  have h2 := this.2
  rw [plist_get _ (lg_lt a h0 h)] at h2
  exact Option.some.inj h2

theorem lg_pw (n : Nat) (h : n < 255) : lg (pw n) = n := by
  have := List.all_eq_true.mp pw_facts n (List.mem_range.mpr h)
  simp only [beq_iff_eq] at this
  rw [List.getD_eq_getElem?_getD, plist_get n h] at this
  exact this

theorem pw_period (n k : Nat) : pw (n + 255 * k) = pw n := by
  induction k with
  | zero => rfl
  | succ k ih =>
    rw [show n + 255 * (k + 1) = (n + 255 * k) + 255 by omega, ← pw_add, pw255, gm_one _ (pw_lt _), ih]

theorem pw_mod (n : Nat) : pw (n % 255) = pw n := by
  have := pw_period (n % 255) (n / 255)
  rw [show n % 255 + 255 * (n / 255) = n by omega] at this
  exact this.symm

theorem pw_ne (n : Nat) : pw n ≠ 0 := by
  intro h
  have e : gm (pw (n % 255)) (pw (255 - n % 255)) = 1 := by
    rw [pw_add, show n % 255 + (255 - n % 255) = 255 by omega, pw255]
  rw [pw_mod, h, zero_gm] at e
  omega

theorem lg_pw_mod (n : Nat) : lg (pw n) = n % 255 := by rw [← pw_mod, lg_pw _ (Nat.mod_lt _ (by omega))]

theorem gm_pw (a b : Nat) (ha0 : a ≠ 0) (hb0 : b ≠ 0) (ha : a < 256) (hb : b < 256) : gm a b = pw (lg a + lg b) := by
  rw [← pw_add, pw_lg a ha0 ha, pw_lg b hb0 hb]

theorem gm_ne (a b : Nat) (ha0 : a ≠ 0) (hb0 : b ≠ 0) (ha : a < 256) (hb : b < 256) : gm a b ≠ 0 := by
  rw [gm_pw a b ha0 hb0 ha hb]; exact pw_ne _

/-! ## Inverses -/

def inv (a : Nat) : Nat := if a = 0 then 0 else pw ((255 - lg a) % 255)

theorem inv_lt (a : Nat) : inv a < 256 := by unfold inv; split; omega; exact pw_lt _
theorem inv_zero : inv 0 = 0 := rfl

theorem gm_inv (a : Nat) (h0 : a ≠ 0) (h : a < 256) : gm a (inv a) = 1 := by
  unfold inv
  rw [if_neg h0, pw_mod]
  have := lg_lt a h0 h
  conv => lhs; arg 1; rw [← pw_lg a h0 h]
  rw [pw_add, show lg a + (255 - lg a) = 255 by omega, pw255]

theorem inv_ne (a : Nat) (h0 : a ≠ 0) : inv a ≠ 0 := by unfold inv; rw [if_neg h0]; exact pw_ne _

/-! ## Polynomials, the constant term first -/

def eval (p : List Nat) (x : Nat) : Nat := p.foldr (fun c v => gm v x ^^^ c) 0

theorem eval_nil (x : Nat) : eval [] x = 0 := rfl
theorem eval_cons (c : Nat) (p : List Nat) (x : Nat) : eval (c :: p) x = gm (eval p x) x ^^^ c := rfl

def Bytes (p : List Nat) : Prop := ∀ c ∈ p, c < 256

theorem eval_lt (p : List Nat) (x : Nat) (hp : Bytes p) : eval p x < 256 := by
  induction p with
  | nil => simp [eval]
  | cons c p ih =>
    exact x_lt _ _ (gm_lt _ _ (ih fun d hd => hp d (List.mem_cons_of_mem _ hd))) (hp c (List.mem_cons_self ..))

/-- The n-th power of any element. -/
def ipow (x : Nat) : Nat → Nat
  | 0 => 1
  | n + 1 => gm (ipow x n) x

theorem ipow_lt (x n : Nat) : ipow x n < 256 := by
  induction n with
  | zero => simp [ipow]
  | succ n ih => exact gm_lt _ _ ih

theorem ipow_two (n : Nat) : ipow 2 n = pw n := by
  induction n with
  | zero => rfl
  | succ n ih => show gm (ipow 2 n) 2 = _; rw [ih, gm_two _ (pw_lt n)]; rfl

theorem eval_snoc (p : List Nat) (c x : Nat) (hp : Bytes p) (hc : c < 256) (hx : x < 256) :
    eval (p ++ [c]) x = eval p x ^^^ gm c (ipow x p.length) := by
  induction p with
  | nil => show gm 0 x ^^^ c = 0 ^^^ gm c 1; rw [zero_gm, gm_one c hc]
  | cons d p ih =>
    have hp' : Bytes p := fun d hd => hp d (List.mem_cons_of_mem _ hd)
    show gm (eval (p ++ [c]) x) x ^^^ d = (gm (eval p x) x ^^^ d) ^^^ gm c (gm (ipow x p.length) x)
    rw [ih hp', add_gm, gm_assoc _ _ _ hc (ipow_lt x _) hx]
    ac_rfl

/-- The sum of two lists of coefficients. -/
def sum : List Nat → List Nat → List Nat
  | [], q => q
  | p, [] => p
  | c :: p, d :: q => (c ^^^ d) :: sum p q

theorem eval_sum (p q : List Nat) (x : Nat) : eval (sum p q) x = eval p x ^^^ eval q x := by
  induction p generalizing q with
  | nil => simp [sum, eval]
  | cons c p ih =>
    cases q with
    | nil => simp [sum, eval]
    | cons d q =>
      show gm (eval (sum p q) x) x ^^^ (c ^^^ d) = (gm (eval p x) x ^^^ c) ^^^ (gm (eval q x) x ^^^ d)
      rw [ih, add_gm]; ac_rfl

end Go.Proofs.YtdgpbdedaafdiaaGreat.Gf
