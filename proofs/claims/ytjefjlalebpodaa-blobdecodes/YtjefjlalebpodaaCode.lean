/-
  What the laws' fixed fact 'awake' of layer 2 does: it is true, and nothing that was there is changed.
  The walks of the laws MatMuls and MatChains.
  The walk of the law MatChains.
  The code matrix (rows of powers times the inverse of the first k of them) in plain numbers: its rows give the values of the polynomial through the shards; any k unlike rows have an inverse.
-/
import Derived.Test.YtjefjlalebpodaaWalksM13
import Derived.Test.YtjefjlalebpodaaMats
namespace Go.Proofs.Ytjefjlalebpodaa
open Go.RowKit

theorem van32 : vanK 2 3 = [[1, 0], [1, 1], [1, 2]] := by decide +kernel

theorem below_3 (w : World) (a b c : Obj) : Below w.heap.size w (((w.alloc a).alloc b).alloc c) := ((below_one w a).alloc (by simp) b).alloc (by simp; omega) c
theorem below_4 (w : World) (a b c d : Obj) : Below w.heap.size w ((((w.alloc a).alloc b).alloc c).alloc d) := (below_3 w a b c).alloc (by simp; omega) d

end Go.Proofs.Ytjefjlalebpodaa

namespace Go.Proofs.Ytjefjlalebpodaa
open Go.RowKit

theorem ctM_le (m : List (List Nat)) : (ctM m).length ≤ 12 := by rw [ctM_len]; omega
theorem ctM_row (m : List (List Nat)) (i : Nat) : ((ctM m).getD i []).length ≤ 12 := by
  by_cases h : i < (ctM m).length
  · rw [ctM_len] at h
    rw [ctM_get m i (by omega), List.length_take]; omega
  · rw [show (ctM m).getD i [] = [] by rw [List.getD_eq_getElem?_getD, List.getElem?_eq_none (by omega)]; rfl]; simp





end Go.Proofs.Ytjefjlalebpodaa

namespace Go.Proofs.Ytjefjlalebpodaa
open Go.RowKit

theorem bytes_of (r : List Nat) (h : ∀ j, j < r.length → r.getD j 0 < 256) : Gf.Bytes r := by
  intro x hx
  obtain ⟨j, hj, rfl⟩ := List.mem_iff_getElem.mp hx
  have := h j hj
  rw [List.getD_eq_getElem?_getD, List.getElem?_eq_getElem hj] at this
  exact this

theorem mprod_sd (a b : List (List Nat)) (sa : Sd a) (sb : Sd b) : Sd (mprod a b) :=
  ⟨by rw [mprod_len]; exact sa.1, by rw [mprod_row a b 0 sa.1]; exact sb.2.1, fun i hi => by rw [mprod_len] at hi; rw [mprod_row a b i hi, mprod_row a b 0 sa.1]⟩

theorem by_mprod (a b : List (List Nat)) (sb : Sd b) (ba : Mt.By a) (bb : Mt.By b) : Mt.By (mprod a b) := by
  intro i
  by_cases hi : i < a.length
  · refine bytes_of _ fun j _ => ?_
    show Mt.en (mprod a b) i j < 256
    rw [mprod_en a b sb ba bb i j hi]
    exact Mt.xs_lt _ _ fun l _ => Gf.gm_lt _ _ (ba.lt i l)
  · rw [show (mprod a b).getD i [] = [] by rw [List.getD_eq_getElem?_getD, List.getElem?_eq_none (by rw [mprod_len]; omega)]; rfl]
    exact bytes_nil

theorem mprod_assoc (a b c : List (List Nat)) (sa : Sd a) (sb : Sd b) (sc : Sd c) (ba : Mt.By a) (bb : Mt.By b) (bc : Mt.By c) :
    mprod (mprod a b) c = mprod a (mprod b c) := by
  have sab := mprod_sd a b sa sb
  have sbc := mprod_sd b c sb sc
  have bab := by_mprod a b sb ba bb
  have bbc := by_mprod b c sc bb bc
  refine mat_congr _ _ (c.getD 0 []).length (by rw [mprod_len, mprod_len, mprod_len]) (fun i hi => ?_) (fun i hi => ?_) (fun i hi k hk => ?_)
  · rw [mprod_len] at hi; exact mprod_row _ _ i hi
  · rw [mprod_len, mprod_len] at hi; rw [mprod_row _ _ i hi, mprod_row b c 0 sb.1]
  · rw [mprod_len, mprod_len] at hi
    rw [mprod_en _ _ sc bab bc i k (by rw [mprod_len]; exact hi), mprod_en _ _ sbc ba bbc i k hi, mprod_len]
    have e1 : ∀ l, l < c.length → Gf.gm (Mt.en (mprod a b) i l) (Mt.en c l k) = Mt.xs b.length fun j => Gf.gm (Mt.en a i j) (Gf.gm (Mt.en b j l) (Mt.en c l k)) := by
      intro l _
      rw [mprod_en a b sb ba bb i l hi, Mt.xs_gm]
      apply Mt.xs_congr
      intro j _
      exact Gf.gm_assoc _ _ _ (ba.lt i j) (bb.lt j l) (bc.lt l k)
    have e2 : ∀ j, j < b.length → Gf.gm (Mt.en a i j) (Mt.en (mprod b c) j k) = Mt.xs c.length fun l => Gf.gm (Mt.en a i j) (Gf.gm (Mt.en b j l) (Mt.en c l k)) := by
      intro j hj
      rw [mprod_en b c sc bb bc j k hj, Mt.gm_xs]
    rw [Mt.xs_congr _ _ _ e1, Mt.xs_congr _ _ _ e2]
    exact Mt.xs_swap _ _ _

theorem ident_sq (n : Nat) : Mt.Sq n (ident n) where
  len := idK_len n n
  row i hi := idK_row n n i hi
  byte := by
    intro i
    by_cases hi : i < n
    · refine bytes_of _ fun j hj => ?_
      have hj' : j < n := by have := idK_row n n i hi; rw [ident] at hj; omega
      show Mt.en (ident n) i j < 256
      rw [ident_en n i j hi hj']
      split <;> omega
    · rw [show (ident n).getD i [] = [] by rw [List.getD_eq_getElem?_getD, List.getElem?_eq_none (by rw [ident, idK_len]; omega)]; rfl]
      exact bytes_nil

theorem mprod_ident (a : List (List Nat)) (n : Nat) (sa : Sd a) (ba : Mt.By a) (hn : (a.getD 0 []).length = n) : mprod a (ident n) = a := by
  have h0 : 0 < n := by rw [← hn]; exact sa.2.1
  have sI := Sd.of_sq (ident_sq n) h0
  refine mat_congr _ _ n (by rw [mprod_len]) (fun i hi => ?_) (fun i hi => ?_) (fun i hi k hk => ?_)
  · rw [mprod_len] at hi; rw [mprod_row _ _ i hi]; exact idK_row n n 0 h0
  · rw [mprod_len] at hi; rw [sa.2.2 i hi, hn]
  · rw [mprod_len] at hi
    rw [mprod_en a _ sI ba (ident_sq n).byte i k hi, (ident_sq n).len, Mt.xs_one n k _ hk (fun l hl hne => by rw [ident_en n l k hl hk, if_neg hne, Gf.gm_zero]), ident_en n k k hk hk, if_pos rfl, Gf.gm_one _ (ba.lt i k)]



end Go.Proofs.Ytjefjlalebpodaa

namespace Go.Proofs.Ytjefjlalebpodaa
open Go.RowKit

/-- 1 at place i, else 0. -/
def unitv (k i : Nat) : List Nat := (List.range k).map fun j => if j = i then 1 else 0
theorem unitv_len (k i : Nat) : (unitv k i).length = k := by simp [unitv]
theorem unitv_get (k i j : Nat) (hj : j < k) : (unitv k i).getD j 0 = if j = i then 1 else 0 := by simp [unitv, hj]
theorem unitv_bytes (k i : Nat) : Gf.Bytes (unitv k i) := by
  intro c hc
  obtain ⟨j, _, rfl⟩ := List.mem_map.mp hc
  split <;> omega

/-- Lagrange's factor of place i. -/
def lf (k i x : Nat) : Nat := Gf.gm (Mt.up x i k) (Gf.ipow (Mt.up i i k) 254)
theorem lf_lt (k i x : Nat) : lf k i x < 256 := Gf.gm_lt _ _ (Mt.up_lt _ _ _)

theorem lagr_unit (k i x : Nat) (hi : i < k) : Mt.lagr (unitv k i) x = lf k i x := by
  unfold Mt.lagr Mt.lgr
  rw [unitv_len, Mt.xs_one k i _ hi (fun j hj hne => by rw [unitv_get k i j hj, if_neg hne, Gf.zero_gm]), unitv_get k i i hi, if_pos rfl]
  exact Gf.one_gm _ (lf_lt k i x)

/-- The value is a sum of the values at the places, each so many times. -/
theorem lagr_xs (vs : List Nat) (x : Nat) (hv : Gf.Bytes vs) : Mt.lagr vs x = Mt.xs vs.length fun i => Gf.gm (Mt.lagr (unitv vs.length i) x) (vs.getD i 0) := by
  show Mt.xs vs.length _ = _
  apply Mt.xs_congr
  intro i hi
  rw [lagr_unit _ _ _ hi]
  exact Gf.gm_comm _ _ (bytes_get vs i hv) (lf_lt _ _ _)

/-- A matrix of n rows whose row pos gives the value at pos. -/
structure CodeOK (k n : Nat) (C : List (List Nat)) : Prop where
  len : C.length = n
  row : ∀ i, i < n → (C.getD i []).length = k
  byte : Mt.By C
  val : ∀ pos, pos < n → ∀ i, i < k → Mt.en C pos i = Mt.lagr (unitv k i) pos

theorem van_en (k n i j : Nat) (hi : i < n) (hj : j < k) : Mt.en (vanK k n) i j = Gf.ipow i j := by
  unfold Mt.en
  rw [vanK_row k n i hi, pows_get i k j hj]

theorem van_sd (k n : Nat) (hk : 0 < k) (hn : 0 < n) : Sd (vanK k n) :=
  ⟨by rw [vanK_len]; exact hn, by rw [vanK_row k n 0 hn, pows_len]; exact hk, fun i hi => by rw [vanK_len] at hi; rw [vanK_row k n i hi, vanK_row k n 0 hn, pows_len, pows_len]⟩

theorem pows_bytes' (x n : Nat) : Gf.Bytes (pows x n) := by
  intro c hc
  obtain ⟨j, _, rfl⟩ := List.mem_map.mp hc
  exact Gf.ipow_lt x j

theorem van_by (k n : Nat) : Mt.By (vanK k n) := by
  intro i
  by_cases hi : i < n
  · rw [vanK_row k n i hi]; exact pows_bytes' _ _
  · rw [show (vanK k n).getD i [] = [] by rw [List.getD_eq_getElem?_getD, List.getElem?_eq_none (by rw [vanK_len]; omega)]; rfl]
    exact bytes_nil

/-- The first k rows. -/
theorem van_take (k n : Nat) (h : k ≤ n) : (vanK k n).take k = vanK k k := by
  unfold vanK
  rw [← List.map_take, List.take_range, Nat.min_eq_left h]

theorem code_ok (k n : Nat) (X : List (List Nat)) (hk : 0 < k) (hkn : k ≤ n) (hn : n ≤ 256) (sX : Mt.Sq k X) (iX : Mt.InvOf k (vanK k k) X) : CodeOK k n (mprod (vanK k n) X) := by
  have sd := Sd.of_sq sX hk
  have by1 := by_mprod (vanK k n) X sd (van_by k n) sX.byte
  refine ⟨by rw [mprod_len, vanK_len], fun i hi => by rw [mprod_row _ _ i (by rw [vanK_len]; exact hi), sX.row 0 hk], by1, fun pos hp i hi => ?_⟩
  rw [mprod_en _ _ sd (van_by k n) sX.byte pos i (by rw [vanK_len]; exact hp), sX.len]
  have hcol : ∀ l, Mt.en X l i < 256 := fun l => sX.byte.lt l i
  have e : ∀ q, q < n → Mt.xs k (fun l => Gf.gm (Mt.en (vanK k n) q l) (Mt.en X l i)) = Gf.eval ((List.range k).map fun l => Mt.en X l i) q := by
    intro q hq
    rw [Mt.eval_xs k q _ hcol (by omega)]
    apply Mt.xs_congr
    intro l hl
    rw [van_en k n q l hq hl]
    exact Gf.gm_comm _ _ (Gf.ipow_lt q l) (hcol l)
  rw [e pos hp]
  refine Mt.lagr_of _ (unitv k i) pos (fun c hc => by obtain ⟨l, _, rfl⟩ := List.mem_map.mp hc; exact hcol l) (unitv_bytes k i) (by simp [unitv_len]) (by rw [unitv_len]; omega) (by omega) fun j hj => ?_
  rw [unitv_len] at hj
  rw [unitv_get k i j hj, ← e j (by omega)]
  have := Mt.inv_right iX sX.byte j i hj hi
  rw [← this]
  unfold Mt.dot
  apply Mt.xs_congr
  intro l hl
  rw [van_en k n j l (by omega) hl, vanK_row k k j hj, pows_get j k l hl]

/-- Column j of the shards. -/
def colv (s : List (List Nat)) (j : Nat) : List Nat := (List.range s.length).map fun i => Mt.en s i j
theorem colv_len (s : List (List Nat)) (j : Nat) : (colv s j).length = s.length := by simp [colv]
theorem colv_get (s : List (List Nat)) (i j : Nat) (hi : i < s.length) : (colv s j).getD i 0 = Mt.en s i j := by simp [colv, hi]
theorem colv_bytes (s : List (List Nat)) (j : Nat) (hs : Mt.By s) : Gf.Bytes (colv s j) := by
  intro c hc
  obtain ⟨i, _, rfl⟩ := List.mem_map.mp hc
  exact hs.lt i j

/-- The fragment of position pos: byte by byte the value of the polynomial through the shards. -/
def frag (s : List (List Nat)) (pos : Nat) : List Nat := (List.range (s.getD 0 []).length).map fun j => Mt.lagr (colv s j) pos
theorem frag_len (s : List (List Nat)) (pos : Nat) : (frag s pos).length = (s.getD 0 []).length := by simp [frag]
theorem frag_get (s : List (List Nat)) (pos j : Nat) (hj : j < (s.getD 0 []).length) : (frag s pos).getD j 0 = Mt.lagr (colv s j) pos := by
  unfold frag
  generalize (s.getD 0 []).length = n at *
  simp [hj]

/-- All fragments. -/
def frags (s : List (List Nat)) (n : Nat) : List (List Nat) := (List.range n).map fun pos => frag s pos
theorem frags_len (s : List (List Nat)) (n : Nat) : (frags s n).length = n := by simp [frags]
theorem frags_row (s : List (List Nat)) (n i : Nat) (hi : i < n) : (frags s n).getD i [] = frag s i := by simp [frags, hi]

/-- The code matrix times the shards are the fragments. -/
theorem code_frags (k n : Nat) (C s : List (List Nat)) (hC : CodeOK k n C) (hs : s.length = k) (ss : Sd s) (bs : Mt.By s) : mprod C s = frags s n := by
  refine mat_congr _ _ (s.getD 0 []).length (by rw [mprod_len, frags_len, hC.len]) (fun i hi => ?_) (fun i hi => ?_) (fun i hi j hj => ?_)
  · rw [mprod_len] at hi; exact mprod_row _ _ i hi
  · rw [mprod_len, hC.len] at hi; rw [frags_row s n i hi, frag_len]
  · rw [mprod_len] at hi
    have hi' := hi
    rw [hC.len] at hi'
    rw [mprod_en C s ss hC.byte bs i j hi]
    show _ = ((frags s n).getD i []).getD j 0
    rw [frags_row s n i hi', frag_get s i j hj, lagr_xs _ _ (colv_bytes s j bs), colv_len, hs]
    apply Mt.xs_congr
    intro l hl
    rw [hC.val i hi' l hl, colv_get s l j (by omega)]

/-- The first k fragments are the shards. -/
theorem frag_first (s : List (List Nat)) (i : Nat) (hi : i < s.length) (h : s.length ≤ 256) (hr : (s.getD i []).length = (s.getD 0 []).length) (bs : Mt.By s) : frag s i = s.getD i [] := by
  refine getD_congr _ _ 0 (by rw [frag_len, hr]) fun j hj => ?_
  rw [frag_len] at hj
  rw [frag_get s i j hj, Mt.lagr_at _ i (by rw [colv_len]; exact hi) (colv_bytes s j bs) (by rw [colv_len]; exact h), colv_get s i j hi]
  rfl

/-- Any k unlike rows of the code matrix don't hang together. -/
theorem code_rows (k n : Nat) (C : List (List Nat)) (ps : List Nat) (hC : CodeOK k n C) (hkn : k ≤ n) (hn : n ≤ 256) (hl : ps.length = k) (hd : ps.Nodup) (hp : ∀ p ∈ ps, p < n) : ¬ Mt.Sing k (ps.map fun p => C.getD p []) := by
  rintro ⟨x, hx, ⟨j, hj, hne⟩, h⟩
  let vs : List Nat := (List.range k).map x
  have hvl : vs.length = k := by simp [vs]
  have hvb : Gf.Bytes vs := fun c hc => by obtain ⟨l, _, rfl⟩ := List.mem_map.mp hc; exact hx l
  have hvg : ∀ l, l < k → vs.getD l 0 = x l := fun l hl => by simp [vs, hl]
  clear_value vs
  have hz : ∀ p ∈ ps, Mt.lagr vs p = 0 := by
    intro p hpm
    obtain ⟨i, hi, e⟩ := List.mem_iff_getElem.mp hpm
    have hd := h i (by omega)
    have er : (ps.map fun p => C.getD p []).getD i [] = C.getD p [] := by
      rw [List.getD_eq_getElem?_getD, List.getElem?_map, List.getElem?_eq_getElem hi, e]; rfl
    rw [er] at hd
    rw [lagr_xs vs p hvb, hvl]
    refine Eq.trans ?_ hd
    unfold Mt.dot
    apply Mt.xs_congr
    intro l hl
    rw [hvg l hl, ← hC.val p (hp p hpm) l hl]
    rfl
  have hroots := Mt.roots ps (Mt.lgP vs k k) (Mt.lgP_bytes vs k k) (fun p hpm => by have := hp p hpm; omega) hd (by rw [hl]; exact Mt.lgP_len vs k k (Nat.le_refl _)) fun p hpm => by
    rw [Mt.lgP_eval vs k k p hvb (by omega) (by have := hp p hpm; omega)]
    have := hz p hpm
    unfold Mt.lagr at this
    rw [hvl] at this
    exact this
  have e0 : Gf.eval (Mt.lgP vs k k) j = 0 := by
    have : ∀ q : List Nat, (∀ c ∈ q, c = 0) → Gf.eval q j = 0 := by
      intro q
      induction q with
      | nil => intro _; rfl
      | cons c q ih => intro hq; rw [Gf.eval_cons, ih (fun y hy => hq y (List.mem_cons_of_mem _ hy)), hq c (List.mem_cons_self ..), Gf.zero_gm]; rfl
    exact this _ hroots
  rw [Mt.lgP_eval vs k k j hvb (by omega) (by omega)] at e0
  have := Mt.lagr_at vs j (by omega) hvb (by omega)
  unfold Mt.lagr at this
  rw [hvl, e0, hvg j hj] at this
  exact hne this.symm

/-- The shards behind k fragments of unlike positions: their fragments at these positions are those. -/
theorem code_back (k n len : Nat) (C X data : List (List Nat)) (ps : List Nat) (hC : CodeOK k n C) (hk : 0 < k) (hl : ps.length = k) (hp : ∀ p ∈ ps, p < n) (sX : Mt.Sq k X) (iX : Mt.InvOf k (ps.map fun p => C.getD p []) X)
    (hd : data.length = k) (hr : ∀ i, i < k → (data.getD i []).length = len) (hlen : 0 < len) (bd : Mt.By data) (i : Nat) (hi : i < k) : frag (mprod X data) (ps.getD i 0) = data.getD i [] := by
  have sdd : Sd data := ⟨by omega, by rw [hr 0 hk]; exact hlen, fun q hq => by rw [hr q (by omega), hr 0 hk]⟩
  have sX' := Sd.of_sq sX hk
  have bs := by_mprod X data sdd sX.byte bd
  have hsl : (mprod X data).length = k := by rw [mprod_len, sX.len]
  have hs0 : ((mprod X data).getD 0 []).length = len := by rw [mprod_row _ _ 0 (by rw [sX.len]; exact hk), hr 0 hk]
  refine getD_congr _ _ 0 (by rw [frag_len, hs0, hr i hi]) fun j hj => ?_
  rw [frag_len, hs0] at hj
  have hpi : ps.getD i 0 < n := hp _ (getD_mem ps i 0 (by omega))
  rw [frag_get _ _ j (by rw [hs0]; exact hj), lagr_xs _ _ (colv_bytes _ j bs), colv_len, hsl]
  -- z = data's column j; x = X z; so R x = z
  have hR := (iX (fun l => Mt.en (mprod X data) l j) (fun l => Mt.en data l j) (fun l => bs.lt l j) (fun l => bd.lt l j)).mpr (fun l hl' => by
    rw [mprod_en X data sdd sX.byte bd l j (by rw [sX.len]; exact hl'), hd]
    rfl) i hi
  rw [show (data.getD i []).getD j 0 = Mt.en data i j from rfl, ← hR]
  unfold Mt.dot
  apply Mt.xs_congr
  intro l hl'
  have er : (ps.map fun p => C.getD p []).getD i [] = C.getD (ps.getD i 0) [] := by
    rw [List.getD_eq_getElem?_getD, List.getElem?_map, List.getElem?_eq_getElem (by omega), List.getD_eq_getElem?_getD (l := ps), List.getElem?_eq_getElem (by omega)]; rfl
  rw [er, ← hC.val _ hpi l hl', colv_get _ l j (by rw [hsl]; exact hl')]
  rfl

end Go.Proofs.Ytjefjlalebpodaa
