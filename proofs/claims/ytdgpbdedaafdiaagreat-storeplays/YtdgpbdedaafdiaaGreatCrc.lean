/-
  CRC-32 in plain numbers: multiplication by x, products, the sum of a list of bytes, and the same by a long division from the highest bit on. No text of the program is named here.
-/
import Derived.Test.YtdgpbdedaafdiaaGreatGf
namespace Go.Proofs.YtdgpbdedaafdiaaGreat.Crc
open Go.Proofs.YtdgpbdedaafdiaaGreat.Gf

theorem x_lt32 {a b : Nat} (ha : a < 2 ^ 32) (hb : b < 2 ^ 32) : a ^^^ b < 2 ^ 32 := Nat.xor_lt_two_pow ha hb

theorem lin_id : Lin (fun x => x) := fun _ _ => rfl
theorem lin_div (n : Nat) : Lin (fun x => x / 2 ^ n) := fun x y => x_div n x y
theorem lin_mod (n : Nat) : Lin (fun x => x % 2 ^ n) := fun x y => x_mod n x y
theorem lin_mul (n : Nat) : Lin (fun x => x * 2 ^ n) := fun x y => x_mul n x y
theorem lin_and (m : Nat) : Lin (fun x => x &&& m) := fun _ _ => Nat.and_xor_distrib_right
theorem lin_none : Lin (fun _ => 0) := fun _ _ => (Nat.xor_self 0).symm

theorem left_cancel {a b c : Nat} (h : a ^^^ b = a ^^^ c) : b = c := by
  have h1 : a ^^^ (a ^^^ b) = a ^^^ (a ^^^ c) := by rw [h]
  rwa [← Nat.xor_assoc, ← Nat.xor_assoc, Nat.xor_self, Nat.zero_xor, Nat.zero_xor] at h1

theorem right_cancel {a b c : Nat} (h : b ^^^ a = c ^^^ a) : b = c := left_cancel (a := a) (by rw [Nat.xor_comm a b, Nat.xor_comm a c]; exact h)

theorem xor_zero_eq {a b : Nat} (h : a ^^^ b = 0) : a = b := right_cancel (a := b) (by rw [h, Nat.xor_self])

/-! ## Multiplication by x -/

/-- p times x. -/
def b1 (p : Nat) : Nat := (p / 2 ^ 1) ^^^ (if p / 2 ^ 0 % 2 = 1 then 3988292384 else 0)

theorem b1_lin : Lin b1 := Lin.xor (f := fun p => p / 2 ^ 1) (lin_div 1) (lin_bit 0 3988292384)

theorem b1_lt (p : Nat) (h : p < 2 ^ 32) : b1 p < 2 ^ 32 := by
  unfold b1
  refine x_lt32 (by omega) ?_
  split <;> omega

theorem b1_odd (p : Nat) (h : p % 2 = 1) : b1 p = p / 2 ^^^ 3988292384 := by
  unfold b1
  rw [if_pos (by simpa using h)]

theorem b1_even (p : Nat) (h : ¬ p % 2 = 1) : b1 p = p / 2 := by
  unfold b1
  rw [if_neg (by simpa using h), Nat.xor_zero]

theorem b1_none (p : Nat) (h : p < 2 ^ 32) (h0 : b1 p = 0) : p = 0 := by
  by_cases ho : p % 2 = 1
  · rw [b1_odd p ho] at h0
    have := xor_zero_eq h0
    omega
  · rw [b1_even p ho] at h0
    omega

/-- p times a power of x. -/
def bN : Nat → Nat → Nat
  | 0, p => p
  | n + 1, p => b1 (bN n p)

theorem bN_lin : ∀ n, Lin (bN n)
  | 0 => lin_id
  | n + 1 => Lin.comp (f := b1) (g := bN n) b1_lin (bN_lin n)

theorem bN_lt (p : Nat) (h : p < 2 ^ 32) : ∀ n, bN n p < 2 ^ 32
  | 0 => h
  | n + 1 => b1_lt _ (bN_lt p h n)

theorem bN_add (m : Nat) (p : Nat) : ∀ n, bN (n + m) p = bN n (bN m p)
  | 0 => by rw [Nat.zero_add]; rfl
  | n + 1 => by rw [Nat.succ_add]; show b1 (bN (n + m) p) = b1 (bN n (bN m p)); rw [bN_add m p n]

theorem bN_none (p : Nat) (h : p < 2 ^ 32) : ∀ n, bN n p = 0 → p = 0
  | 0, h0 => h0
  | n + 1, h0 => bN_none p h n (b1_none _ (bN_lt p h n) h0)

theorem bN_inj (p q : Nat) (hp : p < 2 ^ 32) (hq : q < 2 ^ 32) (n : Nat) (h : bN n p = bN n q) : p = q := by
  refine xor_zero_eq (bN_none _ (x_lt32 hp hq) n ?_)
  rw [bN_lin n, h, Nat.xor_self]

/-! ## Products -/

/-- What the last k rounds of a product add. -/
def tmN : Nat → Nat → Nat → Nat
  | 0, _, _ => 0
  | k + 1, p, q => (if p / 2 ^ 31 % 2 = 1 then q else 0) ^^^ tmN k (p * 2 ^ 1 % 2 ^ 32) (b1 q)

theorem tmN_b1 : ∀ k p q, tmN k p (b1 q) = b1 (tmN k p q)
  | 0, _, _ => by show 0 = b1 0; rw [b1_lin.zero]
  | k + 1, p, q => by
    show (if p / 2 ^ 31 % 2 = 1 then b1 q else 0) ^^^ tmN k (p * 2 ^ 1 % 2 ^ 32) (b1 (b1 q)) = b1 ((if p / 2 ^ 31 % 2 = 1 then q else 0) ^^^ tmN k (p * 2 ^ 1 % 2 ^ 32) (b1 q))
    rw [b1_lin, tmN_b1 k _ (b1 q)]
    congr 1
    split
    · rfl
    · rw [b1_lin.zero]

theorem tmN_bN (k p q : Nat) : ∀ n, tmN k p (bN n q) = bN n (tmN k p q)
  | 0 => rfl
  | n + 1 => by show tmN k p (b1 (bN n q)) = b1 (bN n (tmN k p q)); rw [tmN_b1, tmN_bN k p q n]

theorem tmN_lin : ∀ k q, Lin (fun p => tmN k p q)
  | 0, _ => lin_none
  | k + 1, q => Lin.xor (f := fun p => if p / 2 ^ 31 % 2 = 1 then q else 0) (lin_bit 31 q) (Lin.comp (f := fun p => tmN k p (b1 q)) (tmN_lin k (b1 q)) (Lin.comp (f := fun x => x % 2 ^ 32) (lin_mod 32) (lin_mul 1)))

theorem tm_one (p : Nat) (h : p < 2 ^ 32) : tmN 32 p 2147483648 = p :=
  lin_ext (tmN_lin 32 2147483648) lin_id 32 (by decide +kernel) p h

/-- A product with a power of x. -/
theorem tm_pow (p n : Nat) (h : p < 2 ^ 32) : tmN 32 p (bN n 2147483648) = bN n p := by rw [tmN_bN, tm_one p h]

theorem tmN_odd (k p q : Nat) (h : p / 2 ^ 31 % 2 = 1) : tmN (k + 1) p q = q ^^^ tmN k (p * 2 % 4294967296) (b1 q) := by
  show (if p / 2 ^ 31 % 2 = 1 then q else 0) ^^^ tmN k (p * 2 ^ 1 % 2 ^ 32) (b1 q) = _
  rw [if_pos h]

theorem tmN_even (k p q : Nat) (h : ¬ p / 2 ^ 31 % 2 = 1) : tmN (k + 1) p q = tmN k (p * 2 % 4294967296) (b1 q) := by
  show (if p / 2 ^ 31 % 2 = 1 then q else 0) ^^^ tmN k (p * 2 ^ 1 % 2 ^ 32) (b1 q) = _
  rw [if_neg h, Nat.zero_xor]

/-! ## Sums -/

/-- What bytes make of a rest. -/
def reg (r : Nat) (bs : List Nat) : Nat := bs.foldl (fun r c => bN 8 (r ^^^ c)) r

theorem reg_nil (r : Nat) : reg r [] = r := rfl
theorem reg_cons (r c : Nat) (bs : List Nat) : reg r (c :: bs) = reg (bN 8 (r ^^^ c)) bs := rfl
theorem reg_app (r : Nat) (as bs : List Nat) : reg r (as ++ bs) = reg (reg r as) bs := by unfold reg; rw [List.foldl_append]

theorem reg_lt : ∀ (bs : List Nat) (r : Nat), r < 2 ^ 32 → Bytes bs → reg r bs < 2 ^ 32
  | [], r, h, _ => h
  | c :: bs, r, h, hb => by
    rw [reg_cons]
    have hc : c < 256 := hb c (List.mem_cons_self ..)
    exact reg_lt bs _ (bN_lt _ (x_lt32 h (by omega)) 8) fun x hx => hb x (List.mem_cons_of_mem _ hx)

/-- A rest's own part. -/
theorem reg_xor : ∀ (bs : List Nat) (r s : Nat), reg (r ^^^ s) bs = reg r bs ^^^ bN (8 * bs.length) s
  | [], r, s => rfl
  | c :: bs, r, s => by
    rw [reg_cons, reg_cons, show r ^^^ s ^^^ c = (r ^^^ c) ^^^ s by ac_rfl, bN_lin 8, reg_xor bs, List.length_cons, show 8 * (bs.length + 1) = 8 * bs.length + 8 by omega, bN_add]

/-- The sum. -/
def sum (bs : List Nat) : Nat := 4294967295 ^^^ reg 4294967295 bs

theorem sum_lt (bs : List Nat) (h : Bytes bs) : sum bs < 4294967296 := x_lt32 (by omega) (reg_lt bs _ (by omega) h)

theorem sum_app (as bs : List Nat) : sum (as ++ bs) = bN (8 * bs.length) (sum as) ^^^ sum bs := by
  have h : reg 4294967295 as = 4294967295 ^^^ sum as := by unfold sum; rw [← Nat.xor_assoc, Nat.xor_self, Nat.zero_xor]
  have h2 : sum (as ++ bs) = 4294967295 ^^^ reg (reg 4294967295 as) bs := by unfold sum; rw [reg_app]
  rw [h2, h, reg_xor]
  unfold sum
  ac_rfl

/-- A sum tells that of a longer list. -/
theorem sum_same (as bs cs : List Nat) (ha : Bytes as) (hb : Bytes bs) : sum (as ++ cs) = sum (bs ++ cs) ↔ sum as = sum bs := by
  rw [sum_app, sum_app]
  constructor
  · intro h
    exact bN_inj _ _ (sum_lt as ha) (sum_lt bs hb) _ (right_cancel h)
  · intro h
    rw [h]

/-! ## Four bytes in a row -/

/-- Four bytes as a number, the lowest first. -/
def le (a b c d : Nat) : Nat := a ^^^ (b * 2 ^ 8 ^^^ (c * 2 ^ 16 ^^^ d * 2 ^ 24))

/-- The bytes of a number. -/
def by4 (t : Nat) : List Nat := [t % 2 ^ 8, t / 2 ^ 8 % 2 ^ 8, t / 2 ^ 16 % 2 ^ 8, t / 2 ^ 24 % 2 ^ 8]

theorem reg4_lin : Lin (fun t => reg 0 (by4 t)) :=
  Lin.comp (bN_lin 8) (Lin.xor (f := fun t => bN 8 (bN 8 (bN 8 (0 ^^^ t % 2 ^ 8) ^^^ t / 2 ^ 8 % 2 ^ 8) ^^^ t / 2 ^ 16 % 2 ^ 8))
    (Lin.comp (bN_lin 8) (Lin.xor (f := fun t => bN 8 (bN 8 (0 ^^^ t % 2 ^ 8) ^^^ t / 2 ^ 8 % 2 ^ 8))
      (Lin.comp (bN_lin 8) (Lin.xor (f := fun t => bN 8 (0 ^^^ t % 2 ^ 8)) (Lin.comp (bN_lin 8) (Lin.xor (f := fun _ => 0) lin_none (lin_mod 8))) (Lin.comp (f := fun x => x % 2 ^ 8) (lin_mod 8) (lin_div 8))))
      (Lin.comp (f := fun x => x % 2 ^ 8) (lin_mod 8) (lin_div 16))))
    (Lin.comp (f := fun x => x % 2 ^ 8) (lin_mod 8) (lin_div 24)))

theorem reg4 (t : Nat) (h : t < 2 ^ 32) : reg 0 (by4 t) = bN 32 t := lin_ext reg4_lin (bN_lin 32) 32 (by decide +kernel) t h

/-- Bytes of which each has been added one. -/
def add : List Nat → List Nat → List Nat
  | x :: xs, t :: ts => (x ^^^ t) :: add xs ts
  | _, _ => []

theorem reg_add : ∀ (xs ts : List Nat) (r s : Nat), xs.length = ts.length → reg (r ^^^ s) (add xs ts) = reg r xs ^^^ reg s ts
  | [], [], r, s, _ => rfl
  | x :: xs, t :: ts, r, s, h => by
    show reg (bN 8 (r ^^^ s ^^^ (x ^^^ t))) (add xs ts) = reg (bN 8 (r ^^^ x)) xs ^^^ reg (bN 8 (s ^^^ t)) ts
    rw [show r ^^^ s ^^^ (x ^^^ t) = (r ^^^ x) ^^^ (s ^^^ t) by ac_rfl, bN_lin 8, reg_add xs ts _ _ (by simpa using h)]
  | [], _ :: _, _, _, h => by simp at h
  | _ :: _, [], _, _, h => by simp at h

theorem add_bytes : ∀ (xs ts : List Nat), Bytes xs → Bytes ts → Bytes (add xs ts)
  | x :: xs, t :: ts, hx, ht => by
    intro c hc
    rcases List.mem_cons.mp hc with rfl | hc
    · exact x_lt _ _ (hx x (List.mem_cons_self ..)) (ht t (List.mem_cons_self ..))
    · exact add_bytes xs ts (fun y hy => hx y (List.mem_cons_of_mem _ hy)) (fun y hy => ht y (List.mem_cons_of_mem _ hy)) c hc
  | [], _, _, _ => by intro c hc; simp [add] at hc
  | _ :: _, [], _, _ => by intro c hc; simp [add] at hc

theorem by4_bytes (t : Nat) : Bytes (by4 t) := by
  intro c hc
  simp only [by4, List.mem_cons, List.not_mem_nil, or_false] at hc
  rcases hc with rfl | rfl | rfl | rfl <;> omega

theorem bytes_join {as bs : List Nat} (ha : Bytes as) (hb : Bytes bs) : Bytes (as ++ bs) := by
  intro c hc
  rcases List.mem_append.mp hc with h | h
  · exact ha c h
  · exact hb c h

/-- Bits turned within four bytes turn the sum. -/
theorem sum_turned (as xs cs : List Nat) (t : Nat) (h4 : xs.length = 4) (ha : Bytes as) (hx : Bytes xs) (ht : t < 2 ^ 32) (h0 : t ≠ 0) : sum (as ++ add xs (by4 t) ++ cs) ≠ sum (as ++ xs ++ cs) := by
  intro h
  have h1 := (sum_same (as ++ add xs (by4 t)) (as ++ xs) cs (bytes_join ha (add_bytes xs _ hx (by4_bytes t))) (bytes_join ha hx)).mp h
  unfold sum at h1
  have h2 := left_cancel h1
  rw [reg_app, reg_app] at h2
  have h3 := reg_add xs (by4 t) (reg 4294967295 as) 0 (by rw [h4]; rfl)
  rw [Nat.xor_zero, h2, reg4 t ht] at h3
  have h5 : bN 32 t = 0 := by
    have : reg (reg 4294967295 as) xs ^^^ 0 = reg (reg 4294967295 as) xs ^^^ bN 32 t := by rw [Nat.xor_zero]; exact h3
    exact (left_cancel this).symm
  exact h0 (bN_none t ht 32 h5)

/-! ## The same by a long division -/

/-- The lowest k bits, the other way round. -/
def rv : Nat → Nat → Nat
  | 0, _ => 0
  | k + 1, x => (if x / 2 ^ 0 % 2 = 1 then 2 ^ k else 0) ^^^ rv k (x / 2 ^ 1)

theorem rv_lin : ∀ k, Lin (rv k)
  | 0 => lin_none
  | k + 1 => Lin.xor (f := fun x => if x / 2 ^ 0 % 2 = 1 then 2 ^ k else 0) (lin_bit 0 (2 ^ k)) (Lin.comp (rv_lin k) (lin_div 1))

theorem rv_lt : ∀ k x, rv k x < 2 ^ k
  | 0, _ => by simp [rv]
  | k + 1, x => by
    have h := rv_lt k (x / 2 ^ 1)
    refine Nat.xor_lt_two_pow ?_ (Nat.lt_of_lt_of_le h (Nat.pow_le_pow_right (by omega) (by omega)))
    have : 2 ^ (k + 1) = 2 ^ k * 2 := Nat.pow_succ 2 k
    have : 0 < 2 ^ k := Nat.two_pow_pos k
    split <;> omega

/-- One step of the division. -/
def dv (k r : Nat) : Nat := r ^^^ (if r / 2 ^ k % 2 = 1 then 4374732215 * 2 ^ (k - 32) else 0)

theorem dv_lin (k : Nat) : Lin (dv k) := Lin.xor lin_id (lin_bit k _)

/-- The first j steps, from bit 39 on. -/
def rdN : Nat → Nat → Nat
  | 0, r => r
  | j + 1, r => dv (39 - j) (rdN j r)

theorem rdN_lin : ∀ j, Lin (rdN j)
  | 0 => lin_id
  | j + 1 => Lin.comp (f := dv (39 - j)) (g := rdN j) (dv_lin (39 - j)) (rdN_lin j)

theorem rdN_lt (r : Nat) (h : r < 2 ^ 40) : ∀ j, j ≤ 8 → rdN j r < 2 ^ 40
  | 0, _ => h
  | j + 1, hj => by
    refine Nat.xor_lt_two_pow (rdN_lt r h j (by omega)) ?_
    have : (2 : Nat) ^ (39 - j - 32) ≤ 2 ^ 7 := Nat.pow_le_pow_right (by omega) (by omega)
    split <;> omega

theorem rd_lt (z : Nat) (h : z < 2 ^ 40) : rdN 8 z < 2 ^ 32 := by
  have h1 : rdN 8 z / 2 ^ 32 = 0 := lin_ext (f := fun z => rdN 8 z / 2 ^ 32) (Lin.comp (lin_div 32) (rdN_lin 8)) lin_none 40 (by decide +kernel) z h
  omega

theorem rd_rv (z : Nat) (h : z < 2 ^ 40) : rv 32 (rdN 8 z) = bN 8 (rv 32 (z / 2 ^ 8)) ^^^ rv 32 (z % 2 ^ 8) :=
  lin_ext (f := fun z => rv 32 (rdN 8 z)) (g := fun z => bN 8 (rv 32 (z / 2 ^ 8)) ^^^ rv 32 (z % 2 ^ 8)) (Lin.comp (rv_lin 32) (rdN_lin 8))
    (Lin.xor (f := fun z => bN 8 (rv 32 (z / 2 ^ 8))) (Lin.comp (bN_lin 8) (Lin.comp (rv_lin 32) (lin_div 8))) (Lin.comp (rv_lin 32) (lin_mod 8))) 40 (by decide +kernel) z h

theorem rv8_rv (c : Nat) (h : c < 256) : rv 32 (rv 8 c) = c * 2 ^ 24 :=
  lin_ext (f := fun c => rv 32 (rv 8 c)) (Lin.comp (rv_lin 32) (rv_lin 8)) (lin_mul 24) 8 (by decide +kernel) c h

theorem rv_rv (x : Nat) (h : x < 2 ^ 32) : rv 32 (rv 32 x) = x := lin_ext (f := fun c => rv 32 (rv 32 c)) (Lin.comp (rv_lin 32) (rv_lin 32)) lin_id 32 (by decide +kernel) x h

/-- The division's rest behind the bytes cs. -/
def rst (cs : List Nat) : Nat := cs.foldl (fun r c => rdN 8 (r * 2 ^ 8 + rv 8 c)) 0

theorem rst_snoc (cs : List Nat) (c : Nat) : rst (cs ++ [c]) = rdN 8 (rst cs * 2 ^ 8 + rv 8 c) := by unfold rst; rw [List.foldl_append]; rfl

/-- The same in the other order of bits. -/
def aug (r : Nat) (cs : List Nat) : Nat := cs.foldl (fun r c => bN 8 r ^^^ c * 2 ^ 24) r

theorem rst_from : ∀ (cs : List Nat) (r : Nat), r < 2 ^ 32 → Bytes cs → cs.foldl (fun r c => rdN 8 (r * 2 ^ 8 + rv 8 c)) r < 2 ^ 32 ∧ rv 32 (cs.foldl (fun r c => rdN 8 (r * 2 ^ 8 + rv 8 c)) r) = aug (rv 32 r) cs
  | [], r, h, _ => ⟨h, rfl⟩
  | c :: cs, r, h, hb => by
    have hc : c < 256 := hb c (List.mem_cons_self ..)
    have h8 := rv_lt 8 c
    have hz : r * 2 ^ 8 + rv 8 c < 2 ^ 40 := by omega
    obtain ⟨h1, h2⟩ := rst_from cs (rdN 8 (r * 2 ^ 8 + rv 8 c)) (rd_lt _ hz) fun x hx => hb x (List.mem_cons_of_mem _ hx)
    refine ⟨h1, ?_⟩
    rw [List.foldl_cons, h2, rd_rv _ hz, show (r * 2 ^ 8 + rv 8 c) / 2 ^ 8 = r by omega, show (r * 2 ^ 8 + rv 8 c) % 2 ^ 8 = rv 8 c by omega, rv8_rv c hc]
    rfl

theorem rst_both (cs : List Nat) (h : Bytes cs) : rst cs < 2 ^ 32 ∧ rv 32 (rst cs) = aug 0 cs := by
  have := rst_from cs 0 (by omega) h
  rw [(rv_lin 32).zero] at this
  exact this

theorem le_step (r a b c d e : Nat) (hb : b < 256) (hc : c < 256) (hd : d < 256) : bN 8 (r ^^^ le a b c d) ^^^ e * 2 ^ 24 = bN 8 (r ^^^ a) ^^^ le b c d e := by
  have h8 : ∀ x, x < 2 ^ 24 → bN 8 (x * 2 ^ 8) = x := lin_ext (f := fun x => bN 8 (x * 2 ^ 8)) (Lin.comp (bN_lin 8) (lin_mul 8)) lin_id 24 (by decide +kernel)
  have e1 : le a b c d = a ^^^ (b ^^^ (c * 2 ^ 8 ^^^ d * 2 ^ 16)) * 2 ^ 8 := by
    unfold le
    rw [x_mul, x_mul, Nat.mul_assoc, Nat.mul_assoc]
  have hl : b ^^^ (c * 2 ^ 8 ^^^ d * 2 ^ 16) < 2 ^ 24 := Nat.xor_lt_two_pow (by omega) (Nat.xor_lt_two_pow (by omega) (by omega))
  rw [e1, ← Nat.xor_assoc, bN_lin 8, h8 _ hl]
  unfold le
  ac_rfl

theorem le_zero : le 0 0 0 0 = 0 := rfl

theorem aug_reg : ∀ (bs : List Nat) (r a b c d : Nat) (tail : List Nat), a :: b :: c :: d :: tail = bs ++ [0, 0, 0, 0] → Bytes bs → aug (r ^^^ le a b c d) tail = reg r bs
  | [], r, a, b, c, d, tail, h, _ => by
    simp only [List.nil_append, List.cons.injEq] at h
    obtain ⟨rfl, rfl, rfl, rfl, rfl⟩ := h
    rw [le_zero, Nat.xor_zero]
    rfl
  | x :: bs, r, a, b, c, d, tail, h, hB => by
    rw [List.cons_append, List.cons.injEq] at h
    obtain ⟨rfl, h⟩ := h
    have hB' : Bytes bs := fun y hy => hB y (List.mem_cons_of_mem _ hy)
    have hall : Bytes (bs ++ [0, 0, 0, 0]) := bytes_join hB' (by intro y hy; simp at hy; omega)
    rw [← h] at hall
    have hb : b < 256 := hall b (by simp)
    have hc : c < 256 := hall c (by simp)
    have hd : d < 256 := hall d (by simp)
    cases tail with
    | nil => have := congrArg List.length h; simp at this
    | cons e tail =>
      show aug (bN 8 (r ^^^ le a b c d) ^^^ e * 2 ^ 24) tail = reg (bN 8 (r ^^^ a)) bs
      rw [le_step r a b c d e hb hc hd]
      exact aug_reg bs _ b c d e tail h hB'

theorem aug_nil (r : Nat) : aug r [] = r := rfl
theorem aug_cons (r c : Nat) (cs : List Nat) : aug r (c :: cs) = aug (bN 8 r ^^^ c * 2 ^ 24) cs := rfl

theorem aug_four (a b c d : Nat) (ha : a < 256) (hb : b < 256) (hc : c < 256) : aug 0 [a, b, c, d] = le a b c d := by
  have h0 : bN 8 0 = 0 := (bN_lin 8).zero
  have s1 := le_step 0 0 0 0 0 a (by omega) (by omega) (by omega)
  have s2 := le_step 0 0 0 0 a b (by omega) (by omega) ha
  have s3 := le_step 0 0 0 a b c (by omega) ha hb
  have s4 := le_step 0 0 a b c d ha hb hc
  rw [Nat.zero_xor, Nat.zero_xor, le_zero, h0, Nat.zero_xor, Nat.zero_xor] at s1
  rw [Nat.zero_xor, Nat.zero_xor, h0, Nat.zero_xor] at s2 s3 s4
  rw [aug_cons, aug_cons, aug_cons, aug_cons, aug_nil, h0, Nat.zero_xor, s1, s2, s3, s4]

theorem le_not (a b c d : Nat) : le (255 ^^^ a) (255 ^^^ b) (255 ^^^ c) (255 ^^^ d) = 4294967295 ^^^ le a b c d := by
  have h : (4294967295 : Nat) = le 255 255 255 255 := by decide +kernel
  rw [h]
  unfold le
  rw [x_mul, x_mul, x_mul]
  ac_rfl

/-- The bytes with zeros behind them. -/
def padded (bs : List Nat) : List Nat := bs ++ [0, 0, 0, 0]

/-- The same, the first four complemented. -/
def fours (bs : List Nat) : List Nat := ((padded bs).take 4).map (fun c => 255 ^^^ c) ++ (padded bs).drop 4

theorem padded_len (bs : List Nat) : (padded bs).length = bs.length + 4 := by simp [padded]

theorem padded_bytes {bs : List Nat} (h : Bytes bs) : Bytes (padded bs) := bytes_join h (by intro y hy; simp at hy; omega)

theorem fours_len (bs : List Nat) : (fours bs).length = bs.length + 4 := by
  simp [fours, padded_len]
  omega

theorem fours_bytes {bs : List Nat} (h : Bytes bs) : Bytes (fours bs) := by
  refine bytes_join ?_ fun c hc => padded_bytes h c (List.mem_of_mem_drop hc)
  intro c hc
  obtain ⟨x, hx, rfl⟩ := List.mem_map.mp hc
  exact x_lt _ _ (by omega) (padded_bytes h x (List.mem_of_mem_take hx))

theorem fours_lo (bs : List Nat) (i : Nat) (hi : i < 4) : (fours bs).getD i 0 = 255 ^^^ (padded bs).getD i 0 := by
  have hl := padded_len bs
  unfold fours
  rw [List.getD_eq_getElem?_getD, List.getD_eq_getElem?_getD, List.getElem?_append_left (by simp [hl]; omega), List.getElem?_map, List.getElem?_take_of_lt hi, List.getElem?_eq_getElem (by omega)]
  rfl

theorem fours_hi (bs : List Nat) (i : Nat) (hi : ¬ i < 4) : (fours bs).getD i 0 = (padded bs).getD i 0 := by
  have hl := padded_len bs
  have h4 : (((padded bs).take 4).map (fun c => 255 ^^^ c)).length = 4 := by simp [hl]
  unfold fours
  rw [List.getD_eq_getElem?_getD, List.getD_eq_getElem?_getD, List.getElem?_append_right (by rw [h4]; omega), h4, List.getElem?_drop, show 4 + (i - 4) = i by omega]

theorem four_of : ∀ l : List Nat, 4 ≤ l.length → ∃ a b c d t, l = a :: b :: c :: d :: t
  | a :: b :: c :: d :: t, _ => ⟨a, b, c, d, t, rfl⟩
  | [], h => by simp at h
  | [_], h => by simp at h
  | [_, _], h => by simp at h
  | [_, _, _], h => by simp at h

/-- The long division comes to the sum. -/
theorem ref_sum (bs : List Nat) (h : Bytes bs) : 4294967295 ^^^ rv 32 (rst (fours bs)) = sum bs := by
  rw [(rst_both _ (fours_bytes h)).2]
  unfold sum
  congr 1
  obtain ⟨a, b, c, d, t, e⟩ := four_of (padded bs) (by rw [padded_len]; omega)
  have hall := padded_bytes h
  rw [e] at hall
  have ha := x_lt 255 a (by omega) (hall a (by simp))
  have hb := x_lt 255 b (by omega) (hall b (by simp))
  have hc := x_lt 255 c (by omega) (hall c (by simp))
  have hf : fours bs = [255 ^^^ a, 255 ^^^ b, 255 ^^^ c, 255 ^^^ d] ++ t := by unfold fours; rw [e]; rfl
  have hg : aug 0 (fours bs) = aug (aug 0 [255 ^^^ a, 255 ^^^ b, 255 ^^^ c, 255 ^^^ d]) t := by
    rw [hf]
    unfold aug
    rw [List.foldl_append]
  rw [hg, aug_four _ _ _ _ ha hb hc, le_not]
  exact aug_reg bs 4294967295 a b c d t e.symm h

/-! ## Bits the other way round -/

/-- Blocks of s bits change their places. -/
def swp (s m x : Nat) : Nat := (x / 2 ^ s &&& m) ||| ((x &&& m) * 2 ^ s % 2 ^ 32)

theorem swp_xor (s m x : Nat) (h : m &&& m * 2 ^ s = 0) : swp s m x = (x / 2 ^ s &&& m) ^^^ ((x &&& m) * 2 ^ s % 2 ^ 32) := by
  unfold swp
  apply Nat.eq_of_testBit_eq
  intro i
  have hi : (m &&& m * 2 ^ s).testBit i = false := by rw [h]; exact Nat.zero_testBit i
  simp only [← Nat.shiftLeft_eq, Nat.testBit_and, Nat.testBit_or, Nat.testBit_xor, Nat.testBit_mod_two_pow, Nat.testBit_shiftLeft] at hi ⊢
  cases h1 : m.testBit i <;> cases h2 : m.testBit (i - s) <;> cases h3 : decide (i ≥ s) <;> simp_all

theorem swp_lin (s m : Nat) (h : m &&& m * 2 ^ s = 0) : Lin (swp s m) := by
  have e : swp s m = fun x => (x / 2 ^ s &&& m) ^^^ ((x &&& m) * 2 ^ s % 2 ^ 32) := funext fun x => swp_xor s m x h
  rw [e]
  exact Lin.xor (f := fun x => x / 2 ^ s &&& m) (Lin.comp (f := fun x => x &&& m) (lin_and m) (lin_div s)) (Lin.comp (f := fun x => x % 2 ^ 32) (lin_mod 32) (Lin.comp (f := fun x => x * 2 ^ s) (lin_mul s) (lin_and m)))

theorem swp_lt (s m x : Nat) (hm : m < 2 ^ 32) : swp s m x < 2 ^ 32 :=
  Nat.or_lt_two_pow (Nat.lt_of_le_of_lt Nat.and_le_right hm) (Nat.mod_lt _ (by omega))

theorem rev_eq (x : Nat) (h : x < 2 ^ 32) : swp 16 65535 (swp 8 16711935 (swp 4 252645135 (swp 2 858993459 (swp 1 1431655765 x)))) = rv 32 x :=
  lin_ext (f := fun x => swp 16 65535 (swp 8 16711935 (swp 4 252645135 (swp 2 858993459 (swp 1 1431655765 x)))))
    (Lin.comp (swp_lin 16 65535 (by decide +kernel)) (Lin.comp (swp_lin 8 16711935 (by decide +kernel)) (Lin.comp (swp_lin 4 252645135 (by decide +kernel)) (Lin.comp (swp_lin 2 858993459 (by decide +kernel)) (swp_lin 1 1431655765 (by decide +kernel))))))
    (rv_lin 32) 32 (by decide +kernel) x h

theorem swp_half (x : Nat) (h : x < 2 ^ 32) : swp 16 65535 x = (x / 65536) ||| (x * 65536 % 4294967296) := by
  have h1 : x / 2 ^ 16 &&& 65535 = x / 65536 := by
    rw [show (65535 : Nat) = 2 ^ 16 - 1 by rfl, Nat.and_two_pow_sub_one_eq_mod]
    omega
  have h2 : (x &&& 65535) * 2 ^ 16 % 2 ^ 32 = x * 65536 % 4294967296 := by
    rw [show (65535 : Nat) = 2 ^ 16 - 1 by rfl, Nat.and_two_pow_sub_one_eq_mod]
    omega
  unfold swp
  rw [h1, h2]

end Go.Proofs.YtdgpbdedaafdiaaGreat.Crc
