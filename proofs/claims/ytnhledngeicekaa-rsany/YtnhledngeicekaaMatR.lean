/-
  Rows in echelon form: what the law's rank keeps, and that full rank leaves no nonzero solution.
-/
import Derived.Test.YtnhledngeicekaaMatC
namespace Go.Proofs.Ytnhledngeicekaa.Mt
open Go.Proofs.Ytnhledngeicekaa

/-- m x = 0 just if U x = 0. -/
def KerEq (n : Nat) (m U : List (List Nat)) : Prop := ∀ x : Nat → Nat, (∀ j, x j < 256) → ((∀ i, i < n → dot n (m.getD i []) x = 0) ↔ ∀ i, i < n → dot n (U.getD i []) x = 0)

theorem KerEq.refl (n : Nat) (m : List (List Nat)) : KerEq n m m := fun _ _ => Iff.rfl
theorem KerEq.trans {n : Nat} {a b c : List (List Nat)} (h : KerEq n a b) (k : KerEq n b c) : KerEq n a c := fun x hx => (h x hx).trans (k x hx)

theorem ker_of_eqv {n : Nat} {a b M M' : List (List Nat)} (h : Eqv n a M b M') : KerEq n a b := by
  intro x hx
  have := h x (fun _ => 0) hx (fun _ => by omega)
  unfold Sys eqn at this
  have e1 : ∀ i, dot n (M.getD i []) (fun _ => 0) = 0 := fun i => dot_none _ _ _ fun _ => rfl
  have e2 : ∀ i, dot n (M'.getD i []) (fun _ => 0) = 0 := fun i => dot_none _ _ _ fun _ => rfl
  simp only [e1, e2, Nat.xor_zero] at this
  exact this

theorem ker_swp (n i j : Nat) (L : List (List Nat)) (hL : L.length = n) (hi : i < n) (hj : j < n) : KerEq n L (swp [] L i j) := ker_of_eqv (eqv_swp n i j L L hL hL hi hj)

theorem ker_add (n i r f : Nat) (L : List (List Nat)) (sL : Sq n L) (hi : i < n) (hr : r < n) (hne : r ≠ i) (hf : f < 256) : KerEq n L (L.set i (addMul (L.getD i []) (L.getD r []) f)) :=
  ker_of_eqv (eqv_add n i r f L L sL.len sL.len sL.byte sL.byte hi hr hne hf (by rw [sL.row i hi, sL.row r hr]; exact Nat.le_refl _) (by rw [sL.row i hi, sL.row r hr]; exact Nat.le_refl _))

/-- In the first c columns there is nothing below the diagonal, and no zero on it. -/
def Tri (n c : Nat) (U : List (List Nat)) : Prop := ∀ j, j < c → en U j j ≠ 0 ∧ ∀ i, j < i → i < n → en U i j = 0

theorem tri_ker (n : Nat) (U : List (List Nat)) (bU : By U) (hT : Tri n n U) (x : Nat → Nat) (hx : ∀ j, x j < 256) (h : ∀ i, i < n → dot n (U.getD i []) x = 0) : ∀ j, j < n → x j = 0 := by
  have key : ∀ d j, n - j ≤ d → j < n → x j = 0 := by
    intro d
    induction d with
    | zero => intro j h1 h2; omega
    | succ d ih =>
      intro j _ hj
      have hd := h j hj
      unfold dot at hd
      rw [xs_one n j _ hj (fun k hk hne => by
        rcases Nat.lt_or_ge k j with hlt | hge
        · have := (hT k (by omega)).2 j hlt hj
          show Gf.gm (en U j k) (x k) = 0
          rw [this, Gf.zero_gm]
        · rw [ih k (by omega) hk, Gf.gm_zero])] at hd
      exact Classical.byContradiction fun hne => Gf.gm_ne (en U j j) (x j) (hT j hj).1 hne (bU.lt j j) (hx j) hd
  exact fun j hj => key n j (by omega) hj

theorem ipow_log (a n : Nat) (h0 : a ≠ 0) (ha : a < 256) : Gf.ipow a n = Gf.pw (Gf.lg a * n) := by
  induction n with
  | zero => rfl
  | succ n ih =>
    show Gf.gm (Gf.ipow a n) a = _
    rw [ih]
    have e : a = Gf.pw (Gf.lg a) := (Gf.pw_lg a h0 ha).symm
    rw [show Gf.gm (Gf.pw (Gf.lg a * n)) a = Gf.gm (Gf.pw (Gf.lg a * n)) (Gf.pw (Gf.lg a)) by rw [← e], Gf.pw_add, Nat.mul_succ]

/-- a to the power of 254 is its inverse. -/
theorem ipow_inv (a : Nat) (h0 : a ≠ 0) (ha : a < 256) : Gf.gm (Gf.ipow a 254) a = 1 := by
  show Gf.ipow a 255 = 1
  rw [ipow_log a 255 h0 ha, ← Gf.pw_mod, Nat.mul_mod_left]
  rfl

/-- What of row r is taken off row i. -/
def cof (U : List (List Nat)) (r col i : Nat) : Nat := Gf.gm (en U i col) (Gf.ipow (en U r col) 254)

/-- The first t rows below row r cleared in column col. -/
def rk (U : List (List Nat)) (r col : Nat) : Nat → List (List Nat)
  | 0 => U
  | t + 1 => (rk U r col t).set (r + 1 + t) (addMul ((rk U r col t).getD (r + 1 + t) []) ((rk U r col t).getD r []) (cof (rk U r col t) r col (r + 1 + t)))

theorem rk_row (U : List (List Nat)) (r col t : Nat) : (rk U r col t).getD r [] = U.getD r [] := by
  induction t with
  | zero => rfl
  | succ t ih => rw [rk, getD_set_ne _ _ _ _ _ (by omega), ih]

theorem rk_later (U : List (List Nat)) (r col t i : Nat) (hi : r + 1 + t ≤ i) : (rk U r col t).getD i [] = U.getD i [] := by
  induction t with
  | zero => rfl
  | succ t ih => rw [rk, getD_set_ne _ _ _ _ _ (by omega), ih (by omega)]

theorem cof_lt {U : List (List Nat)} (b : By U) (r col i : Nat) : cof U r col i < 256 := Gf.gm_lt _ _ (b.lt i col)

theorem rk_sq (n r col : Nat) (U : List (List Nat)) (sU : Sq n U) (_ : r < n) : ∀ t, r + 1 + t ≤ n → Sq n (rk U r col t) := by
  intro t
  induction t with
  | zero => exact fun _ => sU
  | succ t ih =>
    intro h
    have s := ih (by omega)
    exact s.set _ _ (by rw [addMul_len]; exact s.row _ (by omega)) (addMul_bytes _ _ _ (s.byte _) (s.byte _))

theorem rk_ker (n r col : Nat) (U : List (List Nat)) (sU : Sq n U) (hr : r < n) : ∀ t, r + 1 + t ≤ n → KerEq n U (rk U r col t) := by
  intro t
  induction t with
  | zero => exact fun _ => KerEq.refl _ _
  | succ t ih =>
    intro h
    have s := rk_sq n r col U sU hr t (by omega)
    exact (ih (by omega)).trans (ker_add n (r + 1 + t) r _ _ s (by omega) hr (by omega) (cof_lt s.byte _ _ _))

theorem rk_tri (n col : Nat) (U : List (List Nat)) (sU : Sq n U) (hc : col < n) (hT : Tri n col U) (h0 : en U col col ≠ 0) :
    ∀ t, col + 1 + t ≤ n → Tri n col (rk U col col t) ∧ ∀ i, col < i → i < col + 1 + t → en (rk U col col t) i col = 0 := by
  intro t
  induction t with
  | zero => exact fun _ => ⟨hT, fun i h1 h2 => by omega⟩
  | succ t ih =>
    intro h
    obtain ⟨t1, t2⟩ := ih (by omega)
    have s := rk_sq n col col U sU hc t (by omega)
    have hrow := rk_row U col col t
    rw [rk]
    generalize rk U col col t = A at *
    have hl : (A.getD col []).length ≤ (A.getD (col + 1 + t) []).length := by rw [s.row col hc, s.row _ (by omega)]; exact Nat.le_refl _
    have hpv : en A col col ≠ 0 := by unfold en; rw [hrow]; exact h0
    refine ⟨fun j hj => ⟨?_, fun i h1 h2 => ?_⟩, fun i h1 h2 => ?_⟩
    · show ((A.set _ _).getD j []).getD j 0 ≠ 0
      rw [getD_set_ne _ _ _ _ _ (by omega)]
      exact (t1 j hj).1
    · by_cases e : i = col + 1 + t
      · subst e
        show ((A.set _ _).getD _ []).getD j 0 = 0
        rw [getD_set_eq _ _ _ _ (by rw [s.len]; exact h2), addMul_get _ _ _ _ hl]
        have z1 : (A.getD (col + 1 + t) []).getD j 0 = 0 := (t1 j hj).2 _ h1 h2
        have z2 : (A.getD col []).getD j 0 = 0 := (t1 j hj).2 col hj hc
        rw [z1, z2, Gf.zero_gm]; rfl
      · show ((A.set _ _).getD i []).getD j 0 = 0
        rw [getD_set_ne _ _ _ _ _ e]
        exact (t1 j hj).2 i h1 h2
    · by_cases e : i = col + 1 + t
      · subst e
        show ((A.set _ _).getD _ []).getD col 0 = 0
        rw [getD_set_eq _ _ _ _ (by rw [s.len]; omega), addMul_get _ _ _ _ hl]
        show en A (col + 1 + t) col ^^^ Gf.gm (en A col col) (cof A col col (col + 1 + t)) = 0
        have b1 := s.byte.lt col col
        have b2 := s.byte.lt (col + 1 + t) col
        have b3 := Gf.ipow_lt (en A col col) 254
        unfold cof
        rw [Gf.gm_comm (en A col col) _ b1 (Gf.gm_lt _ _ b2), Gf.gm_assoc _ _ _ b2 b3 b1, ipow_inv _ hpv b1, Gf.gm_one _ b2]
        exact Nat.xor_self _
      · show ((A.set _ _).getD i []).getD col 0 = 0
        rw [getD_set_ne _ _ _ _ _ e]
        exact t2 i h1 (by omega)

theorem tri_swp (n col p : Nat) (U : List (List Nat)) (sU : Sq n U) (hc : col < n) (hp : p < n) (hcp : col ≤ p) (hT : Tri n col U) : Tri n col (swp [] U col p) := by
  intro j hj
  constructor
  · rw [en_swp U n col p j j sU.len hc hp, if_neg (by omega), if_neg (by omega)]; exact (hT j hj).1
  · intro i h1 h2
    rw [en_swp U n col p i j sU.len hc hp]
    by_cases a : i = col
    · rw [if_pos a]; exact (hT j hj).2 p (by omega) hp
    · rw [if_neg a]
      by_cases b : i = p
      · rw [if_pos b]; exact (hT j hj).2 col hj hc
      · rw [if_neg b]; exact (hT j hj).2 i h1 h2

/-- One column of the law's rank, all columns before it having had a pivot. -/
theorem rank_step (n col p : Nat) (m U : List (List Nat)) (sU : Sq n U) (hc : col < n) (hp : p < n) (hcp : col ≤ p) (hK : KerEq n m U) (hT : Tri n col U) (h0 : en U p col ≠ 0) :
    KerEq n m (rk (swp [] U col p) col col (n - (col + 1))) ∧ Tri n (col + 1) (rk (swp [] U col p) col col (n - (col + 1))) := by
  have s1 := sU.swp col p hc hp
  have t1 := tri_swp n col p U sU hc hp hcp hT
  have h1 : en (swp [] U col p) col col ≠ 0 := by rw [en_swp U n col p col col sU.len hc hp, if_pos rfl]; exact h0
  have k1 := hK.trans (ker_swp n col p U sU.len hc hp)
  refine ⟨k1.trans (rk_ker n col col _ s1 hc _ (by omega)), ?_⟩
  have := rk_tri n col _ s1 hc t1 h1 (n - (col + 1)) (by omega)
  intro j hj
  by_cases e : j = col
  · subst e
    refine ⟨?_, fun i h1 h2 => this.2 i h1 (by omega)⟩
    unfold en
    rw [rk_row]
    exact h1
  · exact this.1 j (by omega)

end Go.Proofs.Ytnhledngeicekaa.Mt
