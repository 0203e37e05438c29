/-
  What mat.Inverse does.
  What the law's cut does.
  The program's matrices are the reference's: products, the identity matrix; facts on two small matrices.
-/
import Derived.Test.YtjefjlalebpodaaWalksM12
namespace Go.Proofs.Ytjefjlalebpodaa
open Go.RowKit

/-- An inverse and true; or nil and false, and then m x = 0 for some x that is not zero. -/
def InvPost (w : World) (n : Nat) (m : List (List Nat)) (e : Ending) (w' : World) : Prop :=
  Below w.heap.size w w' ∧
  ((∃ G C g c X, e = .returned (.tuple #[.slice (some ⟨G, 0, none⟩) n C, .bool true]) ∧ OwnM w' w.heap.size G C g c X ∧ Mt.Sq n X ∧ Mt.InvOf n m X) ∨
   (e = .returned (.tuple #[.slice none 0 0, .bool false]) ∧ Mt.Sing n m))

theorem GridAt.by {w : World} {a : Option Addr} {cap : Nat} {m : List (List Nat)} (h : GridAt w a cap m) : Mt.By m := by
  intro i
  by_cases hi : i < m.length
  · obtain ⟨_, _, _, _, _, _, hs⟩ := h.at i hi
    exact hs.byte
  · rw [List.getD_eq_getElem?_getD, List.getElem?_eq_none (by omega)]; exact bytes_nil

/-- The first that is no zero, or none. -/
theorem first_of (p : Nat → Nat) (n : Nat) : (∃ j, j < n ∧ p j ≠ 0 ∧ ∀ i, i < j → p i = 0) ∨ ∀ i, i < n → p i = 0 := by
  induction n with
  | zero => exact .inr fun i hi => by omega
  | succ n ih =>
    rcases ih with ⟨j, hj, h1, h2⟩ | h
    · exact .inl ⟨j, by omega, h1, h2⟩
    · by_cases e : p n = 0
      · exact .inr fun i hi => by
          by_cases ei : i = n
          · rw [ei]; exact e
          · exact h i (by omega)
      · exact .inl ⟨n, by omega, e, h⟩

set_option maxRecDepth 100000 in
set_option maxHeartbeats 4000000 in
theorem inverse_any (va : Option Addr) (vc n : Nat) (m : List (List Nat)) (w : World) (hG : GridAt w va vc m) (sm : Sd m) (hl : m.length = n) (hsq : (m.getD 0 []).length = n) (hn : n ≤ 1000000) :
    Calls Try.prog 63 #[.slice va n vc] w (InvPost w n m) := by
  have HS := Lib.hid (fun w => fun h => sound_yes va vc m w h sm)
  rw [hl] at HS
  obtain ⟨b1, off1, ra1, rc1, e, hca, _⟩ := hG.at 0 sm.1
  rw [Nat.add_zero, hsq] at hca
  subst e
  have HG := Lib.hid hG
  have HRA : Hid (∀ i, i < n → (m.getD i []).length = n) := fun i hi => by rw [sm.2.2 i (by rw [hl]; exact hi), hsq]
  have hn0 : 0 < n := by rw [← hl]; exact sm.1
  have HL := Lib.hid hl
  have HSQ : Hid (Mt.Sq n m) := ⟨hl, HRA.out, hG.by⟩
  have HCA := Lib.hid hca
  have HCP := Lib.hid (copied_any (some ⟨b1, off1, none⟩) vc n m)
  rw [hl] at HCP
  clear hG hca sm hl hsq
  have t0 : ((n : Int) != (n : Int)) = false := by simp
  have t1 : (0 : Int) < (n : Int) := by omega
  go_enter Try.func63, Try.ntmps63
  go_wp2_with fail
  refine (HS.out _ HG.out).mono ?_
  rintro e w1 ⟨rfl, hb1⟩
  have hca := cell_later hb1 HCA.out
  go_wp2_with fail
  refine (made_ex _).mono ?_
  rintro e w2 ⟨rfl, cs, hcs, rfl⟩
  have ht := hcs.isTab w1 108
  have hb2 := hb1.alloc hb1.size (.cells cs 108)
  have hs2 : w1.heap.size < (w1.alloc (.cells cs 108)).heap.size := by simp
  have hz1 := hb1.size
  clear hcs hca hb1 t0 t1
  generalize w1.alloc (.cells cs 108) = w2 at *
  generalize w1.heap.size = tb at *
  have HT2 := Lib.hid ht
  have HB2 := Lib.hid hb2
  clear ht hb2
  go_wp2_with fail
  refine (HCP.out _ (HG.out.below HB2.out) hn0 hn (by omega) HRA.out).mono ?_
  rintro e w3 ⟨_, GL, CL, gl, cl, rfl, hL3, hb3⟩
  have hz2 := HB2.out.size
  have HT3 := Lib.hid (HT2.out.below hb3 hs2)
  have HB3 := Lib.hid (HB2.out.trans (hb3.mono hz2))
  have HL3 := Lib.hid hL3
  have hz3 := hb3.size
  clear hL3 hb3
  go_wp2_with fail
  refine (identity_any n _ hn).mono ?_
  rintro e w4 ⟨_, GR, CR, gr, cr, rfl, hM4, hb4⟩
  have hz4 := hb4.size
  have HL4 := Lib.hid (HL3.out.below hb4)
  have HT4 := Lib.hid (HT3.out.below hb4 (by omega))
  have HB4 := Lib.hid (HB3.out.trans (hb4.mono (by omega)))
  have HM4 := Lib.hid hM4
  clear hM4 hb4
  have HR5 : Hid (Red (w4.alloc (.cells #[.pointer (some ⟨tb, 0, none⟩), .slice (some ⟨GL, 0, none⟩) n CL, .slice (some ⟨GR, 0, none⟩) n CR] 100)) w4.heap.size tb w2.heap.size w3.heap.size n GL CL GR CR m (ident n)) := by
    have hbn := below_one w4 (.cells #[.pointer (some ⟨tb, 0, none⟩), .slice (some ⟨GL, 0, none⟩) n CL, .slice (some ⟨GR, 0, none⟩) n CR] 100)
    refine ⟨hs2, by rw [World.cell?_alloc_at (hn := rfl)]; rfl, by rw [World.cell?_alloc_at (hn := rfl)]; rfl, by rw [World.cell?_alloc_at (hn := rfl)]; rfl, HT4.out.below hbn (by omega), HL3.out.lt.2, HM4.out.lt.2, hz3, hz4, HSQ.out,
      ⟨idK_len n n, fun i hi => idK_row n n i hi, HM4.out.by⟩, ⟨gl, cl, gr, cr, HL4.out.below hbn, HM4.out.below hbn, fun i hi => (HL3.out.row i (by rw [HL.out]; exact hi)).lt.2, fun i hi => (HM4.out.row i (by rw [ident, idK_len]; exact hi)).lt.2⟩⟩
  have HB5 := Lib.hid (HB4.out.alloc HB4.out.size (.cells #[.pointer (some ⟨tb, 0, none⟩), .slice (some ⟨GL, 0, none⟩) n CL, .slice (some ⟨GR, 0, none⟩) n CR] 100))
  have hlo : w.heap.size ≤ w2.heap.size := hz2
  have hmd : w.heap.size ≤ w3.heap.size := by omega
  have HID : Hid (∀ i, i < n → ∀ k, k < n → Mt.en (ident n) i k = if i = k then 1 else 0) := fun i hi k hk => by
    have := idK_get n n i k hi hk
    by_cases e : i = k
    · rw [if_pos ⟨e, hi⟩] at this; rw [if_pos e]; exact this
    · rw [if_neg (fun h => e h.1)] at this; rw [if_neg e]; exact this
  clear HL3 HL4 HM4 HT4 HT3 HT2 HB4 HB3 HB2 HCP HSQ HRA HS HCA
  go_wp2
  go_loopw [5, 27] (fun _ i ws => ∃ (col : Nat) (L M : List (List Nat)), col ≤ n ∧ i = .int .i64 col ∧ Hid (Red ws w4.heap.size tb w2.heap.size w3.heap.size n GL CL GR CR L M) ∧ Hid (Mt.Eqv n m (ident n) L M) ∧ Hid (Mt.UnitTo n col L) ∧ Hid (Below w.heap.size w ws)) (fun _ i _ => n - (intOf i).toNat)
  case atStart => exact ⟨0, m, ident n, Nat.zero_le _, rfl, HR5, Mt.Eqv.refl _ _ _, fun j hj => by omega, HB5⟩
  case round =>
    obtain ⟨col, L, M, hc, rfl, hR, hE, hU, hB⟩ := hrel
    by_cases hlt : col < n
    · rcases first_of (fun j => Mt.en L (col + j) col) (n - col) with ⟨j, hj, h1, h2⟩ | hnone
      · have HC := Lib.hid (clear_yes w4.heap.size tb w2.heap.size w3.heap.size n GL CL GR CR col j L M wr hR.out (by omega) h1 h2)
        have HST := Lib.hid (Mt.clr_step n col (col + j) L M hR.out.sL hR.out.sM hlt (by omega) (by omega) hU.out h1)
        clear h1 h2
        go_wp2_with fail
        refine HC.out.mono ?_
        rintro e w5 ⟨rfl, hR5, hM5⟩
        go_wp2
        go_round
        case rel => exact ⟨col + 1, _, _, by omega, by go_num, hR5, hE.out.trans HST.out.2.2.1, HST.out.2.2.2, hM5.below hB.out hB.out.size hlo⟩
        case measure => simp [intOf]; omega
      · have HC := Lib.hid (clear_no w4.heap.size tb w2.heap.size w3.heap.size n GL CL GR CR col L M wr hR.out hlt (fun i h1 h2 => by have := hnone (i - col) (by omega); rw [show col + (i - col) = i by omega] at this; exact this))
        have HSG := Lib.hid (Mt.sing_of n col m (ident n) L M hlt hE.out hU.out hR.out.sL.byte (fun i h1 h2 => by have := hnone (i - col) (by omega); rw [show col + (i - col) = i by omega] at this; exact this))
        clear hnone
        go_wp2_with fail
        refine HC.out.mono ?_
        rintro e w5 ⟨rfl, hb5⟩
        go_wp2
        go_ret2
        exact ⟨hB.out.trans (hb5.mono hB.out.size), .inr ⟨rfl, HSG.out⟩⟩
    · obtain rfl : col = n := by omega
      have c2 := hR.out.c2
      obtain ⟨gl', cl', gr', cr', _, hM', _, _⟩ := hR.out.own
      have HMM := Lib.hid (hM'.base hmd)
      clear hM'
      go_wp2
      go_ret2
      exact ⟨hB.out, .inl ⟨_, _, _, _, M, rfl, HMM.out, hR.out.sM, Mt.inv_of _ m (ident _) L M hE.out hU.out HID.out⟩⟩

set_option maxRecDepth 100000 in
set_option maxHeartbeats 4000000 in
theorem inverse_no (va : Option Addr) (vc : Nat) (m : List (List Nat)) (w : World) (hG : GridAt w va vc m) (h : ¬ (Sd m ∧ m.length = (m.getD 0 []).length)) :
    Calls Try.prog 63 #[.slice va m.length vc] w fun e w' => e = .returned (.tuple #[.slice none 0 0, .bool false]) ∧ Below w.heap.size w w' := by
  have HG := Lib.hid hG
  by_cases sm : Sd m
  · have HS := Lib.hid (fun w => fun h => sound_yes va vc m w h sm)
    obtain ⟨b1, off1, ra1, rc1, e, hca, _⟩ := hG.at 0 sm.1
    rw [Nat.add_zero] at hca
    subst e
    have HF : Hid (m.length ≠ (m.getD 0 []).length) := fun e => h ⟨sm, e⟩
    have hm0 := sm.1
    clear h sm hG
    generalize (m.getD 0 []).length = l at *
    have t0 : ((m.length : Int) != (l : Int)) = true := by have := HF.out; simp; omega
    have t1 : (0 : Int) < (m.length : Int) := by omega
    have HCA := Lib.hid hca
    clear hca
    go_enter Try.func63, Try.ntmps63
    go_wp2_with fail
    refine (HS.out _ HG.out).mono ?_
    rintro e w1 ⟨rfl, hb1⟩
    have hca := cell_later hb1 HCA.out
    go_wp2
    go_ret2
    exact ⟨rfl, hb1⟩
  · have HS := Lib.hid (fun w => fun h => sound_no va vc m w h sm)
    clear h sm hG
    go_enter Try.func63, Try.ntmps63
    go_wp2_with fail
    refine (HS.out _ HG.out).mono ?_
    rintro e w1 ⟨rfl, hb1⟩
    go_wp2
    go_ret2
    exact ⟨rfl, hb1⟩

end Go.Proofs.Ytjefjlalebpodaa

namespace Go.Proofs.Ytjefjlalebpodaa
open Go.RowKit

/-- At most twelve rows of at most twelve. -/
def ctM (m : List (List Nat)) : List (List Nat) := (m.take 12).map fun r => r.take 12

theorem ctM_len (m : List (List Nat)) : (ctM m).length = min 12 m.length := by simp [ctM]
theorem ctM_get (m : List (List Nat)) (i : Nat) (h : i < 12) : (ctM m).getD i [] = (m.getD i []).take 12 := by
  unfold ctM
  rw [List.getD_eq_getElem?_getD, List.getElem?_map, List.getElem?_take_of_lt h, List.getD_eq_getElem?_getD]
  cases m[i]? <;> simp

/-- The first i rows done. -/
def ctK (m : List (List Nat)) (i : Nat) : List (List Nat) := (m.take i).map fun r => r.take 12
theorem ctK_len (m : List (List Nat)) (i : Nat) (h : i ≤ m.length) : (ctK m i).length = i := by simp [ctK]; omega
theorem ctK_succ (m : List (List Nat)) (i : Nat) (h : i < m.length) : ctK m (i + 1) = ctK m i ++ [(m.getD i []).take 12] := by
  unfold ctK
  rw [List.take_succ_eq_append_getElem h, List.map_append, List.getD_eq_getElem?_getD, List.getElem?_eq_getElem h]
  rfl



/-- The law's cut. -/
theorem ctK_all (m : List (List Nat)) : ctK m (min 12 m.length) = ctM m := by
  unfold ctK ctM
  by_cases h : 12 ≤ m.length
  · rw [Nat.min_eq_left h]
  · rw [Nat.min_eq_right (by omega), List.take_of_length_le (Nat.le_refl _), List.take_of_length_le (by omega : m.length ≤ 12)]

end Go.Proofs.Ytjefjlalebpodaa

namespace Go.Proofs.Ytjefjlalebpodaa
open Go.RowKit

theorem pent_xs (a b : List (List Nat)) (i k n : Nat) : pent a b i k n = Mt.xs n fun l => Gf.gm (Mt.en a i l) (Mt.en b l k) := by
  induction n with
  | zero => rfl
  | succ n ih => rw [pent, Mt.xs, ih]; rfl

theorem prow_get (a b : List (List Nat)) (i K q c : Nat) (hc : c < K) : (prow a b i K q).getD c 0 = if c < q then pent a b i c b.length else 0 := by
  induction q with
  | zero => show (List.replicate K 0).getD c 0 = _; rw [getD_rep _ _ _ _ hc, if_neg (by omega)]
  | succ q ih =>
    by_cases e : c = q
    · subst e; rw [prow, getD_set_eq _ _ _ _ (by rw [prow_len]; exact hc), if_pos (by omega)]
    · rw [prow, getD_set_ne _ _ _ _ _ e, ih]
      by_cases h : c < q
      · rw [if_pos h, if_pos (by omega)]
      · rw [if_neg h, if_neg (by omega)]

theorem prK_row (a b : List (List Nat)) (K n i : Nat) (hi : i < n) : (prK a b K n).getD i [] = prow a b i K K := by simp [prK, hi]

theorem prK_en (a b : List (List Nat)) (K n i k : Nat) (hi : i < n) (hk : k < K) : Mt.en (prK a b K n) i k = Mt.xs b.length fun l => Gf.gm (Mt.en a i l) (Mt.en b l k) := by
  unfold Mt.en
  rw [prK_row _ _ _ _ _ hi, prow_get _ _ _ _ _ _ hk, if_pos hk, pent_xs]
  rfl

theorem mrowK_get (r : List Nat) (b : List (List Nat)) (k j c : Nat) (hb : ∀ l, (b.getD l []).length ≤ k) : (mrowK r b k j).getD c 0 = Mt.xs j fun l => Gf.gm (Mt.en b l c) (r.getD l 0) := by
  induction j with
  | zero =>
    show (List.replicate k 0).getD c 0 = 0
    by_cases h : c < k
    · rw [getD_rep _ _ _ _ h]
    · exact Mt.getD_out _ _ (by simp; omega)
  | succ j ih => rw [mrowK, Mt.addMul_get _ _ _ _ (by rw [mrowK_len]; exact hb j), Mt.xs, ih]; rfl

theorem mat_congr (m m' : List (List Nat)) (k : Nat) (hl : m.length = m'.length) (h1 : ∀ i, i < m.length → (m.getD i []).length = k) (h2 : ∀ i, i < m.length → (m'.getD i []).length = k)
    (h : ∀ i, i < m.length → ∀ j, j < k → Mt.en m i j = Mt.en m' i j) : m = m' := by
  refine getD_congr m m' [] hl fun i hi => ?_
  refine getD_congr _ _ 0 (by rw [h1 i hi, h2 i hi]) fun j hj => ?_
  rw [h1 i hi] at hj
  exact h i hi j hj

theorem sd_le {b : List (List Nat)} (sb : Sd b) (l : Nat) : (b.getD l []).length ≤ (b.getD 0 []).length := by
  by_cases hl : l < b.length
  · rw [sb.2.2 l hl]; exact Nat.le_refl _
  · rw [show b.getD l [] = [] by rw [List.getD_eq_getElem?_getD, List.getElem?_eq_none (by omega)]; rfl]; simp

theorem mprod_len (a b : List (List Nat)) : (mprod a b).length = a.length := mmulK_len _ _ _ _
theorem mprod_row (a b : List (List Nat)) (i : Nat) (hi : i < a.length) : ((mprod a b).getD i []).length = (b.getD 0 []).length := by
  unfold mprod
  rw [mmulK_row _ _ _ _ _ hi, if_pos hi, mrowK_len]

theorem mprod_en (a b : List (List Nat)) (sb : Sd b) (ba : Mt.By a) (bb : Mt.By b) (i k : Nat) (hi : i < a.length) : Mt.en (mprod a b) i k = Mt.xs b.length fun l => Gf.gm (Mt.en a i l) (Mt.en b l k) := by
  show ((mprod a b).getD i []).getD k 0 = _
  unfold mprod
  rw [mmulK_row _ _ _ _ _ hi, if_pos hi, mrowK_get _ _ _ _ _ (sd_le sb)]
  apply Mt.xs_congr
  intro l _
  exact Gf.gm_comm _ _ (bb.lt l k) (ba.lt i l)

theorem prod_eq (a b : List (List Nat)) (sb : Sd b) (ba : Mt.By a) (bb : Mt.By b) : mprod a b = prK a b (b.getD 0 []).length a.length := by
  refine mat_congr _ _ (b.getD 0 []).length (by rw [mprod_len, prK_len]) (fun i hi => ?_) (fun i hi => ?_) (fun i hi j hj => ?_)
  · rw [mprod_len] at hi; exact mprod_row a b i hi
  · rw [mprod_len] at hi; rw [prK_row _ _ _ _ _ hi, prow_len]
  · rw [mprod_len] at hi; rw [mprod_en a b sb ba bb i j hi, prK_en a b _ _ i j hi hj]

theorem roneK_row (n i : Nat) (hi : i < n) : (roneK n n).getD i [] = (List.replicate n 0).set i 1 := by simp [roneK, hi]
theorem roneK_en (n i k : Nat) (hi : i < n) (hk : k < n) : Mt.en (roneK n n) i k = if i = k then 1 else 0 := by
  unfold Mt.en
  rw [roneK_row n i hi]
  by_cases e : k = i
  · subst e; rw [getD_set_eq _ _ _ _ (by simpa using hk), if_pos rfl]
  · rw [getD_set_ne _ _ _ _ _ e, getD_rep _ _ _ _ hk, if_neg (fun h => e h.symm)]

theorem one_of (n : Nat) (m : List (List Nat)) (hl : m.length = n) (hr : ∀ i, i < n → (m.getD i []).length = n) (h : ∀ i, i < n → ∀ k, k < n → Mt.en m i k = if i = k then 1 else 0) : m = roneK n n := by
  refine mat_congr _ _ n (by rw [hl, roneK_len]) (fun i hi => ?_) (fun i hi => ?_) (fun i hi k hk => ?_)
  · rw [hl] at hi; exact hr i hi
  · rw [hl] at hi; rw [roneK_row n i hi]; simp
  · rw [hl] at hi; rw [h i hi k hk, roneK_en n i k hi hk]

theorem ident_en (n i k : Nat) (hi : i < n) (hk : k < n) : Mt.en (ident n) i k = if i = k then 1 else 0 := by
  have := idK_get n n i k hi hk
  by_cases e : i = k
  · rw [if_pos ⟨e, hi⟩] at this; rw [if_pos e]; exact this
  · rw [if_neg (fun h => e h.1)] at this; rw [if_neg e]; exact this

theorem ident_eq (n : Nat) : ident n = roneK n n := one_of n _ (idK_len n n) (fun i hi => idK_row n n i hi) fun i hi k hk => ident_en n i k hi hk

/-- The inverse times the matrix. -/
theorem inv_prod_left {n : Nat} {m X : List (List Nat)} (h : Mt.InvOf n m X) (bm : Mt.By m) (hm : m.length = n) : prK X m n n = roneK n n :=
  one_of n _ (prK_len _ _ _ _) (fun i hi => by rw [prK_row _ _ _ _ _ hi, prow_len]) fun i hi k hk => by
    rw [prK_en X m n n i k hi hk, hm]
    have := Mt.inv_left h bm i k hi
    by_cases e : i = k
    · rw [if_pos e] at this ⊢; exact this
    · rw [if_neg e, if_pos hk] at this; rw [if_neg e]; exact this

/-- The matrix times the inverse. -/
theorem inv_prod_right {n : Nat} {m X : List (List Nat)} (h : Mt.InvOf n m X) (bX : Mt.By X) (hX : X.length = n) : prK m X n n = roneK n n :=
  one_of n _ (prK_len _ _ _ _) (fun i hi => by rw [prK_row _ _ _ _ _ hi, prow_len]) fun i hi k hk => by
    rw [prK_en m X n n i k hi hk, hX]
    exact Mt.inv_right h bX i k hi hk

theorem not_sing_a : ¬ Mt.Sing 2 [[1, 1], [1, 2]] := by
  rintro ⟨x, hx, ⟨j, hj, hn⟩, h⟩
  have h0 := h 0 (by omega)
  have h1 := h 1 (by omega)
  simp only [Mt.dot, Mt.xs, List.getD_cons_zero, List.getD_cons_succ, Nat.zero_xor] at h0 h1
  rw [Gf.one_gm _ (hx 0), Gf.one_gm _ (hx 1)] at h0
  rw [Gf.one_gm _ (hx 0)] at h1
  have e0 := (Mt.xor_zero_iff _ _).mp h0
  have e1 := (Mt.xor_zero_iff _ _).mp h1
  have e2 : Gf.gm 3 (x 1) = 0 := by
    have : (3 : Nat) = 1 ^^^ 2 := by decide
    rw [this, Gf.add_gm, Gf.one_gm _ (hx 1), ← e1, e0]
    exact Nat.xor_self _
  have e3 : x 1 = 0 := Classical.byContradiction fun hne => Gf.gm_ne 3 (x 1) (by omega) hne (by omega) (hx 1) e2
  have e4 : x 0 = 0 := by rw [e0, e3]
  match j, hj with
  | 0, _ => exact hn e4
  | 1, _ => exact hn e3

theorem no_inv_a (X : List (List Nat)) : ¬ Mt.InvOf 2 [[1, 1], [1, 1]] X := by
  intro h
  have := (h (fun _ => 1) (fun _ => 0) (fun _ => by omega) (fun _ => by omega)).mp (fun i hi => by
    match i, hi with
    | 0, _ => decide +kernel
    | 1, _ => decide +kernel) 0 (by omega)
  rw [Mt.dot_none 2 _ _ (fun _ => rfl)] at this
  cases this

theorem matMul_at (va vb : Option Addr) (vc vd la lb : Nat) (a b : List (List Nat)) (w : World) (hA : GridAt w va vc a) (hB : GridAt w vb vd b) (sa : Sd a) (sb : Sd b) (hf : (a.getD 0 []).length = b.length)
    (hn : a.length ≤ 1000000) (hk : (b.getD 0 []).length ≤ 1000000000) (hla : a.length = la) (hlb : b.length = lb) :
    Calls Try.prog 61 #[.slice va la vc, .slice vb lb vd] w (RetMT w la (mprod a b)) := by
  subst hla hlb
  exact matMul_yes va vb vc vd a b w hA hB sa sb hf hn hk

theorem Sd.of_sq {n : Nat} {m : List (List Nat)} (h : Mt.Sq n m) (hn : 0 < n) : Sd m :=
  ⟨by rw [h.len]; exact hn, by rw [h.row 0 hn]; exact hn, fun i hi => by rw [h.len] at hi; rw [h.row i hi, h.row 0 hn]⟩

/-- A literal of two bytes. -/
theorem seen_two (w : World) (x y : Nat) (hx : x < 256) (hy : y < 256) : SeenAt (w.alloc (.cells #[.int .u8 (x : Int), .int .u8 (y : Int)] 5)) (some ⟨w.heap.size, 0, none⟩) 2 [x, y] :=
  ⟨by simp, by unfold maxLen; omega, by intro c hc; simp at hc; omega, fun i hi => ⟨w.heap.size, 0, rfl, by
    have h2 : i < 2 := by simpa using hi
    rw [World.cell?_alloc_at (hn := rfl)]
    match i, h2 with
    | 0, _ => rfl
    | 1, _ => rfl⟩⟩

/-- A literal of two rows of two bytes. -/
theorem grid_two (w : World) (a b c d : Nat) (ha : a < 256) (hb : b < 256) (hc : c < 256) (hd : d < 256) :
    GridAt (((w.alloc (.cells #[.int .u8 (a : Int), .int .u8 (b : Int)] 5)).alloc (.cells #[.int .u8 (c : Int), .int .u8 (d : Int)] 5)).alloc (.cells #[.slice (some ⟨w.heap.size, 0, none⟩) 2 2, .slice (some ⟨w.heap.size + 1, 0, none⟩) 2 2] 22))
      (some ⟨w.heap.size + 1 + 1, 0, none⟩) 2 [[a, b], [c, d]] := by
  have h1 := seen_two w a b ha hb
  have h2 := seen_two (w.alloc (.cells #[.int .u8 (a : Int), .int .u8 (b : Int)] 5)) c d hc hd
  have e1 : (w.alloc (.cells #[.int .u8 (a : Int), .int .u8 (b : Int)] 5)).heap.size = w.heap.size + 1 := by simp
  rw [e1] at h2
  have e2 : ((w.alloc (.cells #[.int .u8 (a : Int), .int .u8 (b : Int)] 5)).alloc (.cells #[.int .u8 (c : Int), .int .u8 (d : Int)] 5)).heap.size = w.heap.size + 1 + 1 := by simp
  refine ⟨by simp, by unfold maxLen; omega, fun i hi => ?_⟩
  have h3 : i < 2 := by simpa using hi
  match i, h3 with
  | 0, _ =>
    refine ⟨_, _, _, rfl, ?_, _, _, rfl, (h1.below (below_one _ _)).below (below_one _ _)⟩
    rw [← e2, World.cell?_alloc_at (hn := rfl)]; rfl
  | 1, _ =>
    refine ⟨_, _, _, rfl, ?_, _, _, rfl, h2.below (below_one _ _)⟩
    rw [← e2, World.cell?_alloc_at (hn := rfl)]; rfl

/-- A literal of three rows of two bytes. -/
theorem grid_three (w : World) (a b c d e f : Nat) (ha : a < 256) (hb : b < 256) (hc : c < 256) (hd : d < 256) (he : e < 256) (hf : f < 256) :
    GridAt ((((w.alloc (.cells #[.int .u8 (a : Int), .int .u8 (b : Int)] 5)).alloc (.cells #[.int .u8 (c : Int), .int .u8 (d : Int)] 5)).alloc (.cells #[.int .u8 (e : Int), .int .u8 (f : Int)] 5)).alloc (.cells #[.slice (some ⟨w.heap.size, 0, none⟩) 2 2, .slice (some ⟨w.heap.size + 1, 0, none⟩) 2 2, .slice (some ⟨w.heap.size + 1 + 1, 0, none⟩) 2 2] 22))
      (some ⟨w.heap.size + 1 + 1 + 1, 0, none⟩) 3 [[a, b], [c, d], [e, f]] := by
  have h1 := seen_two w a b ha hb
  have h2 := seen_two (w.alloc (.cells #[.int .u8 (a : Int), .int .u8 (b : Int)] 5)) c d hc hd
  have h3 := seen_two ((w.alloc (.cells #[.int .u8 (a : Int), .int .u8 (b : Int)] 5)).alloc (.cells #[.int .u8 (c : Int), .int .u8 (d : Int)] 5)) e f he hf
  have e1 : (w.alloc (.cells #[.int .u8 (a : Int), .int .u8 (b : Int)] 5)).heap.size = w.heap.size + 1 := by simp
  have e2 : ((w.alloc (.cells #[.int .u8 (a : Int), .int .u8 (b : Int)] 5)).alloc (.cells #[.int .u8 (c : Int), .int .u8 (d : Int)] 5)).heap.size = w.heap.size + 1 + 1 := by simp
  have e3 : (((w.alloc (.cells #[.int .u8 (a : Int), .int .u8 (b : Int)] 5)).alloc (.cells #[.int .u8 (c : Int), .int .u8 (d : Int)] 5)).alloc (.cells #[.int .u8 (e : Int), .int .u8 (f : Int)] 5)).heap.size = w.heap.size + 1 + 1 + 1 := by simp
  rw [e1] at h2
  rw [e2] at h3
  refine ⟨by simp, by unfold maxLen; omega, fun i hi => ?_⟩
  have h4 : i < 3 := by simpa using hi
  match i, h4 with
  | 0, _ =>
    refine ⟨_, _, _, rfl, ?_, _, _, rfl, ((h1.below (below_one _ _)).below (below_one _ _)).below (below_one _ _)⟩
    rw [← e3, World.cell?_alloc_at (hn := rfl)]; rfl
  | 1, _ =>
    refine ⟨_, _, _, rfl, ?_, _, _, rfl, (h2.below (below_one _ _)).below (below_one _ _)⟩
    rw [← e3, World.cell?_alloc_at (hn := rfl)]; rfl
  | 2, _ =>
    refine ⟨_, _, _, rfl, ?_, _, _, rfl, h3.below (below_one _ _)⟩
    rw [← e3, World.cell?_alloc_at (hn := rfl)]; rfl

theorem sd_of_two (a b c d : Nat) : Sd [[a, b], [c, d]] := by
  refine ⟨by simp, by simp, fun i hi => ?_⟩
  have h2 : i < 2 := by simpa using hi
  match i, h2 with
  | 0, _ => rfl
  | 1, _ => rfl
theorem sd_a : Sd [[1, 1], [1, 2]] := sd_of_two 1 1 1 2
theorem sd_b : Sd [[1, 1], [1, 1]] := sd_of_two 1 1 1 1
theorem by_a : Mt.By [[1, 1], [1, 2]] := by
  intro i
  match i with
  | 0 => exact (bytes_app (bytes_one 1 (by omega)) (bytes_one 1 (by omega)) : Gf.Bytes [1, 1])
  | 1 => exact (bytes_app (bytes_one 1 (by omega)) (bytes_one 2 (by omega)) : Gf.Bytes [1, 2])
  | i + 2 => exact bytes_nil

end Go.Proofs.Ytjefjlalebpodaa
