/-
  What elimination makes of a matrix: a column cleared; an inverse, or a nonzero solution of the equations with zero; rows in echelon form.
-/
import Derived.Test.YtnhledngeicekaaMatB
namespace Go.Proofs.Ytnhledngeicekaa.Mt
open Go.Proofs.Ytnhledngeicekaa

/-- A square matrix of bytes. -/
structure Sq (n : Nat) (m : List (List Nat)) : Prop where
  len : m.length = n
  row : ∀ i, i < n → (m.getD i []).length = n
  byte : By m

theorem Sq.set {n : Nat} {m : List (List Nat)} (h : Sq n m) (i : Nat) (r : List Nat) (hl : r.length = n) (hb : Gf.Bytes r) : Sq n (m.set i r) where
  len := by simp [h.len]
  row k hk := by
    by_cases e : k = i
    · subst e; rw [getD_set_eq _ _ _ _ (by rw [h.len]; exact hk), hl]
    · rw [getD_set_ne _ _ _ _ _ e]; exact h.row k hk
  byte := by_set h.byte i r hb

theorem Sq.swp {n : Nat} {m : List (List Nat)} (h : Sq n m) (i j : Nat) (hi : i < n) (hj : j < n) : Sq n (swp [] m i j) :=
  (h.set i (m.getD j []) (h.row j hj) (h.byte j)).set j (m.getD i []) (h.row i hi) (h.byte i)

/-- The first c columns are those of the identity matrix. -/
def UnitTo (n c : Nat) (m : List (List Nat)) : Prop := ∀ j, j < c → ∀ i, i < n → en m i j = if i = j then 1 else 0

/-- Row i minus so much of row col that its element in column col is zero; both sides. -/
def sub1 (L M : List (List Nat)) (col i : Nat) : List (List Nat) × List (List Nat) :=
  if i = col then (L, M) else (L.set i (addMul (L.getD i []) (L.getD col []) (en L i col)), M.set i (addMul (M.getD i []) (M.getD col []) (en L i col)))

def subK (L M : List (List Nat)) (col : Nat) : Nat → List (List Nat) × List (List Nat)
  | 0 => (L, M)
  | i + 1 => sub1 (subK L M col i).1 (subK L M col i).2 col i

structure SubInv (n col k : Nat) (L M L' M' : List (List Nat)) : Prop where
  sqL : Sq n L'
  sqM : Sq n M'
  eqv : Eqv n L M L' M'
  unit : UnitTo n col L'
  piv : L'.getD col [] = L.getD col []
  done : ∀ i, i < k → i ≠ col → en L' i col = 0

theorem sub_inv (n col : Nat) (L M : List (List Nat)) (sL : Sq n L) (sM : Sq n M) (hc : col < n) (hu : UnitTo n col L) (h1 : en L col col = 1) :
    ∀ k, k ≤ n → SubInv n col k L M (subK L M col k).1 (subK L M col k).2 := by
  intro k
  induction k with
  | zero => exact fun _ => ⟨sL, sM, Eqv.refl _ _ _, hu, rfl, fun i hi => by omega⟩
  | succ k ih =>
    intro hk
    have I := ih (by omega)
    rw [subK]
    generalize (subK L M col k).1 = A at *
    generalize (subK L M col k).2 = B at *
    unfold sub1
    by_cases e : k = col
    · rw [if_pos e]
      refine ⟨I.sqL, I.sqM, I.eqv, I.unit, I.piv, fun i hi hne => I.done i (by omega) hne⟩
    · rw [if_neg e]
      have hf := I.sqL.byte.lt k col
      have hlA : (A.getD col []).length ≤ (A.getD k []).length := by rw [I.sqL.row col hc, I.sqL.row k (by omega)]; exact Nat.le_refl _
      have hlB : (B.getD col []).length ≤ (B.getD k []).length := by rw [I.sqM.row col hc, I.sqM.row k (by omega)]; exact Nat.le_refl _
      have hpe : ∀ j, en A col j = en L col j := fun j => by unfold en; rw [I.piv]
      refine ⟨I.sqL.set _ _ (by rw [addMul_len]; exact I.sqL.row k (by omega)) (addMul_bytes _ _ _ (I.sqL.byte k) (I.sqL.byte col)),
        I.sqM.set _ _ (by rw [addMul_len]; exact I.sqM.row k (by omega)) (addMul_bytes _ _ _ (I.sqM.byte k) (I.sqM.byte col)),
        I.eqv.trans (eqv_add n k col _ A B I.sqL.len I.sqM.len I.sqL.byte I.sqM.byte (by omega) hc (fun h => e h.symm) hf hlA hlB), ?_, ?_, ?_⟩
      · intro j hj i hi
        by_cases ei : i = k
        · subst ei
          show ((A.set i _).getD i []).getD j 0 = _
          rw [getD_set_eq _ _ _ _ (by rw [I.sqL.len]; exact hi), addMul_get _ _ _ _ hlA]
          have h0 : (A.getD col []).getD j 0 = 0 := by
            have := I.unit j hj col hc
            rw [if_neg (by omega)] at this
            exact this
          rw [h0, Gf.zero_gm, Nat.xor_zero]
          exact I.unit j hj i hi
        · show ((A.set k _).getD i []).getD j 0 = _
          rw [getD_set_ne _ _ _ _ _ ei]
          exact I.unit j hj i hi
      · rw [getD_set_ne _ _ _ _ _ (fun h => e h.symm), I.piv]
      · intro i hi hne
        by_cases ei : i = k
        · subst ei
          show ((A.set i _).getD i []).getD col 0 = _
          rw [getD_set_eq _ _ _ _ (by rw [I.sqL.len]; omega), addMul_get _ _ _ _ hlA]
          have hp : (A.getD col []).getD col 0 = 1 := by have := hpe col; rw [h1] at this; exact this
          rw [hp, Gf.one_gm _ hf]
          exact Nat.xor_self _
        · show ((A.set k _).getD i []).getD col 0 = _
          rw [getD_set_ne _ _ _ _ _ ei]
          exact I.done i (by omega) hne

/-- What clearing column col by row p makes. -/
def clr (L M : List (List Nat)) (n col p : Nat) : List (List Nat) × List (List Nat) :=
  subK ((swp [] L col p).set col (scale ((swp [] L col p).getD col []) (Gf.inv (en (swp [] L col p) col col)))) ((swp [] M col p).set col (scale ((swp [] M col p).getD col []) (Gf.inv (en (swp [] L col p) col col)))) col n

theorem en_swp (m : List (List Nat)) (n i j k c : Nat) (hm : m.length = n) (hi : i < n) (hj : j < n) : en (swp [] m i j) k c = en m (if k = i then j else if k = j then i else k) c := by
  unfold en
  rw [swp_get _ _ _ _ _ (by omega) (by omega)]

theorem clr_step (n col p : Nat) (L M : List (List Nat)) (sL : Sq n L) (sM : Sq n M) (hc : col < n) (hp : p < n) (hcp : col ≤ p) (hu : UnitTo n col L) (h0 : en L p col ≠ 0) :
    Sq n (clr L M n col p).1 ∧ Sq n (clr L M n col p).2 ∧ Eqv n L M (clr L M n col p).1 (clr L M n col p).2 ∧ UnitTo n (col + 1) (clr L M n col p).1 := by
  have s1 := sL.swp col p hc hp
  have t1 := sM.swp col p hc hp
  have e1 := eqv_swp n col p L M sL.len sM.len hc hp
  have hpv : en (swp [] L col p) col col = en L p col := by rw [en_swp L n col p col col sL.len hc hp, if_pos rfl]
  have u1 : UnitTo n col (swp [] L col p) := by
    intro j hj i hi
    rw [en_swp L n col p i j sL.len hc hp]
    by_cases a : i = col
    · rw [if_pos a, hu j hj p hp, if_neg (by omega), if_neg (by omega)]
    · rw [if_neg a]
      by_cases b : i = p
      · rw [if_pos b, hu j hj col hc, if_neg (by omega), if_neg (by omega)]
      · rw [if_neg b, hu j hj i hi]
  unfold clr
  have hv : en (swp [] L col p) col col ≠ 0 := by rw [hpv]; exact h0
  have hvl := s1.byte.lt col col
  generalize swp [] L col p = A at *
  generalize swp [] M col p = B at *
  have hfl := Gf.inv_lt (en A col col)
  have hf0 := Gf.inv_ne (en A col col) hv
  have hg := Gf.gm_inv (en A col col) hv hvl
  have hgen : ∀ f, f = Gf.inv (en A col col) → Gf.gm (en A col col) f = 1 := fun f hf => by rw [hf]; exact hg
  have hg2 := hgen _ rfl
  generalize Gf.inv (en A col col) = f at *
  have s2 := s1.set col (scale (A.getD col []) f) (by rw [scale_len]; exact s1.row col hc) (scale_bytes _ _ (s1.byte col))
  have t2 := t1.set col (scale (B.getD col []) f) (by rw [scale_len]; exact t1.row col hc) (scale_bytes _ _ (t1.byte col))
  have e2 := e1.trans (eqv_scale n col f A B s1.len t1.len s1.byte t1.byte hc hfl hf0)
  have h11 : en (A.set col (scale (A.getD col []) f)) col col = 1 := by
    unfold en
    rw [getD_set_eq _ _ _ _ (by rw [s1.len]; exact hc), scale_get]
    exact hg2
  have u2 : UnitTo n col (A.set col (scale (A.getD col []) f)) := by
    intro j hj i hi
    by_cases a : i = col
    · subst a
      unfold en
      rw [getD_set_eq _ _ _ _ (by rw [s1.len]; exact hc), scale_get]
      have : (A.getD i []).getD j 0 = 0 := by have := u1 j hj i hi; rw [if_neg (by omega)] at this; exact this
      rw [this, Gf.zero_gm, if_neg (by omega)]
    · unfold en
      rw [getD_set_ne _ _ _ _ _ a]
      exact u1 j hj i hi
  generalize A.set col (scale (A.getD col []) f) = A2 at *
  generalize B.set col (scale (B.getD col []) f) = B2 at *
  have I := sub_inv n col A2 B2 s2 t2 hc u2 h11 n (Nat.le_refl _)
  refine ⟨I.sqL, I.sqM, e2.trans I.eqv, ?_⟩
  intro j hj i hi
  by_cases ej : j = col
  · subst ej
    by_cases ei : i = j
    · subst ei
      rw [if_pos rfl]
      have : en (subK A2 B2 i n).1 i i = en A2 i i := by unfold en; rw [I.piv]
      rw [this, h11]
    · rw [if_neg ei]; exact I.done i hi ei
  · exact I.unit j (by omega) i hi

/-- A nonzero x with m x = 0. -/
def Sing (n : Nat) (m : List (List Nat)) : Prop := ∃ x : Nat → Nat, (∀ j, x j < 256) ∧ (∃ j, j < n ∧ x j ≠ 0) ∧ ∀ i, i < n → dot n (m.getD i []) x = 0

theorem dot_none (n : Nat) (r : List Nat) (z : Nat → Nat) (h : ∀ j, z j = 0) : dot n r z = 0 := xs_zero _ _ fun j _ => by rw [h, Gf.gm_zero]

theorem sing_of (n col : Nat) (m o L M : List (List Nat)) (hc : col < n) (he : Eqv n m o L M) (hu : UnitTo n col L) (bL : By L) (h0 : ∀ i, col ≤ i → i < n → en L i col = 0) : Sing n m := by
  let x : Nat → Nat := fun j => if j < col then en L j col else if j = col then 1 else 0
  have hx : ∀ j, x j < 256 := by
    intro j
    show (if j < col then en L j col else if j = col then 1 else 0) < 256
    split
    · exact bL.lt j col
    · split <;> omega
  have hxc : x col = 1 := by show (if col < col then _ else if col = col then 1 else 0) = 1; rw [if_neg (by omega), if_pos rfl]
  have hxl : ∀ j, j < col → x j = en L j col := fun j hj => if_pos hj
  have hxg : ∀ j, col < j → x j = 0 := fun j hj => by show (if j < col then _ else if j = col then 1 else 0) = 0; rw [if_neg (by omega), if_neg (by omega)]
  clear_value x
  refine ⟨x, hx, ⟨col, hc, by rw [hxc]; omega⟩, ?_⟩
  have hs : Sys n L M x (fun _ => 0) := by
    intro i hi
    unfold eqn
    rw [dot_none n (M.getD i []) _ (fun _ => rfl), Nat.xor_zero]
    -- the sum: at j = i (if i < col) and at j = col
    have split2 : ∀ (c N : Nat), c < N → ∀ f : Nat → Nat, (∀ j, c < j → j < N → f j = 0) → xs N f = xs c f ^^^ f c := by
      intro c N
      induction N with
      | zero => intro h; omega
      | succ N ih =>
        intro h f hf
        by_cases e : c = N
        · subst e; rfl
        · rw [xs, ih (by omega) f (fun j h1 h2 => hf j h1 (by omega)), hf N (by omega) (by omega), Nat.xor_zero]
    unfold dot
    rw [split2 col n hc _ (fun j h1 _ => by rw [hxg j h1, Gf.gm_zero])]
    rw [hxc, Gf.gm_one ((L.getD i []).getD col 0) (bL.lt i col)]
    show _ ^^^ en L i col = 0
    by_cases hic : i < col
    · rw [xs_one col i _ hic (fun j hj hne => by
        have := hu j hj i hi
        rw [if_neg (fun h => hne h.symm)] at this
        show Gf.gm (en L i j) (x j) = 0
        rw [this, Gf.zero_gm])]
      have h1 : (L.getD i []).getD i 0 = 1 := by have := hu i hic i hi; rw [if_pos rfl] at this; exact this
      rw [h1, hxl i hic, Gf.one_gm _ (bL.lt i col)]
      exact Nat.xor_self _
    · rw [h0 i (by omega) hi, Nat.xor_zero]
      apply xs_zero
      intro j hj
      have := hu j hj i hi
      rw [if_neg (by omega)] at this
      show Gf.gm (en L i j) (x j) = 0
      rw [this, Gf.zero_gm]
  have hm := (he x (fun _ => 0) hx (fun _ => by omega)).mpr hs
  intro i hi
  have := hm i hi
  unfold eqn at this
  rw [dot_none n (o.getD i []) _ (fun _ => rfl), Nat.xor_zero] at this
  exact this

/-- X is m's inverse: z = m x just if x = X z. -/
def InvOf (n : Nat) (m X : List (List Nat)) : Prop :=
  ∀ x z : Nat → Nat, (∀ j, x j < 256) → (∀ j, z j < 256) → ((∀ i, i < n → dot n (m.getD i []) x = z i) ↔ ∀ i, i < n → x i = dot n (X.getD i []) z)

theorem dot_unit (n i : Nat) (r : List Nat) (x : Nat → Nat) (hi : i < n) (hx : ∀ j, x j < 256) (h : ∀ j, j < n → r.getD j 0 = if i = j then 1 else 0) : dot n r x = x i := by
  unfold dot
  rw [xs_one n i _ hi (fun j hj hne => by rw [h j hj, if_neg (fun e => hne e.symm), Gf.zero_gm]), h i hi, if_pos rfl, Gf.one_gm _ (hx i)]

theorem xor_zero_iff (a b : Nat) : a ^^^ b = 0 ↔ a = b := by
  constructor
  · intro h
    have : (a ^^^ b) ^^^ b = b := by rw [h, Nat.zero_xor]
    rw [Nat.xor_assoc, Nat.xor_self, Nat.xor_zero] at this
    exact this
  · rintro rfl; exact Nat.xor_self _

theorem inv_of (n : Nat) (m o L M : List (List Nat)) (he : Eqv n m o L M) (hu : UnitTo n n L) (ho : ∀ i, i < n → ∀ j, j < n → en o i j = if i = j then 1 else 0) : InvOf n m M := by
  intro x z hx hz
  have h := he x z hx hz
  have a : (∀ i, i < n → dot n (m.getD i []) x = z i) ↔ Sys n m o x z := by
    constructor
    · intro k i hi
      unfold eqn
      rw [dot_unit n i (o.getD i []) z hi hz (ho i hi)]
      exact (xor_zero_iff _ _).mpr (k i hi)
    · intro k i hi
      have := k i hi
      unfold eqn at this
      rw [dot_unit n i (o.getD i []) z hi hz (ho i hi)] at this
      exact (xor_zero_iff _ _).mp this
  have b : Sys n L M x z ↔ ∀ i, i < n → x i = dot n (M.getD i []) z := by
    have hr : ∀ i, i < n → dot n (L.getD i []) x = x i := fun i hi => dot_unit n i (L.getD i []) x hi hx fun j hj => hu j hj i hi
    constructor
    · intro k i hi
      have := k i hi
      unfold eqn at this
      rw [hr i hi] at this
      exact (xor_zero_iff _ _).mp this
    · intro k i hi
      unfold eqn
      rw [hr i hi]
      exact (xor_zero_iff _ _).mpr (k i hi)
  exact a.trans (h.trans b)

/-- An inverse times the matrix, the matrix times the inverse. -/
theorem inv_left {n : Nat} {m X : List (List Nat)} (h : InvOf n m X) (bm : By m) (i k : Nat) (hi : i < n) : dot n (X.getD i []) (fun l => en m l k) = if i = k then 1 else if k < n then 0 else dot n (X.getD i []) (fun l => en m l k) := by
  by_cases hk : k < n
  · have hx : ∀ j, (fun j => if j = k then 1 else 0 : Nat → Nat) j < 256 := by intro j; show (if j = k then 1 else 0) < 256; split <;> omega
    have := (h (fun j => if j = k then 1 else 0) (fun l => en m l k) hx (fun l => bm.lt l k)).mp (fun l _ => by
      unfold dot
      rw [xs_one n k _ hk (fun j hj hne => by show Gf.gm _ (if j = k then 1 else 0) = 0; rw [if_neg hne, Gf.gm_zero])]
      show Gf.gm (en m l k) (if k = k then 1 else 0) = en m l k
      rw [if_pos rfl, Gf.gm_one _ (bm.lt l k)]) i hi
    rw [← this]
    by_cases e : i = k
    · rw [if_pos e, if_pos e]
    · rw [if_neg e, if_neg e, if_pos hk]
  · rw [if_neg (by omega), if_neg hk]

theorem inv_right {n : Nat} {m X : List (List Nat)} (h : InvOf n m X) (bX : By X) (i k : Nat) (hi : i < n) (hk : k < n) : dot n (m.getD i []) (fun l => en X l k) = if i = k then 1 else 0 := by
  have hz : ∀ j, (fun j => if j = k then 1 else 0 : Nat → Nat) j < 256 := by intro j; show (if j = k then 1 else 0) < 256; split <;> omega
  exact (h (fun l => en X l k) (fun j => if j = k then 1 else 0) (fun l => bX.lt l k) hz).mpr (fun l _ => by
    unfold dot
    rw [xs_one n k _ hk (fun j hj hne => by show Gf.gm _ (if j = k then 1 else 0) = 0; rw [if_neg hne, Gf.gm_zero])]
    show en X l k = Gf.gm (en X l k) (if k = k then 1 else 0)
    rw [if_pos rfl, Gf.gm_one _ (bX.lt l k)]) i hi

end Go.Proofs.Ytnhledngeicekaa.Mt
