/-
  The walk of the law MatChains.
-/
import Derived.Test.YtnhledngeicekaaLawMul
namespace Go.Proofs.Ytnhledngeicekaa
open Go.RowKit

theorem bytes_of (r : List Nat) (h : ∀ j, j < r.length → r.getD j 0 < 256) : Gf.Bytes r := by
  intro x hx
  obtain ⟨j, hj, rfl⟩ := List.mem_iff_getElem.mp hx
  have := h j hj
  rw [List.getD_eq_getElem?_getD, List.getElem?_eq_getElem hj] at this
  exact this

theorem mprod_sd (a b : List (List Nat)) (sa : Sd a) (sb : Sd b) : Sd (mprod a b) :=
  ⟨by rw [mprod_len]; exact sa.1, by rw [mprod_row a b 0 sa.1]; exact sb.2.1, fun i hi => by rw [mprod_len] at hi; rw [mprod_row a b i hi, mprod_row a b 0 sa.1]⟩

theorem by_mprod (a b : List (List Nat)) (sb : Sd b) (ba : Mt.By a) (bb : Mt.By b) : Mt.By (mprod a b) := by
  intro i
  by_cases hi : i < a.length
  · refine bytes_of _ fun j _ => ?_
    show Mt.en (mprod a b) i j < 256
    rw [mprod_en a b sb ba bb i j hi]
    exact Mt.xs_lt _ _ fun l _ => Gf.gm_lt _ _ (ba.lt i l)
  · rw [show (mprod a b).getD i [] = [] by rw [List.getD_eq_getElem?_getD, List.getElem?_eq_none (by rw [mprod_len]; omega)]; rfl]
    exact bytes_nil

theorem mprod_assoc (a b c : List (List Nat)) (sa : Sd a) (sb : Sd b) (sc : Sd c) (ba : Mt.By a) (bb : Mt.By b) (bc : Mt.By c) :
    mprod (mprod a b) c = mprod a (mprod b c) := by
  have sab := mprod_sd a b sa sb
  have sbc := mprod_sd b c sb sc
  have bab := by_mprod a b sb ba bb
  have bbc := by_mprod b c sc bb bc
  refine mat_congr _ _ (c.getD 0 []).length (by rw [mprod_len, mprod_len, mprod_len]) (fun i hi => ?_) (fun i hi => ?_) (fun i hi k hk => ?_)
  · rw [mprod_len] at hi; exact mprod_row _ _ i hi
  · rw [mprod_len, mprod_len] at hi; rw [mprod_row _ _ i hi, mprod_row b c 0 sb.1]
  · rw [mprod_len, mprod_len] at hi
    rw [mprod_en _ _ sc bab bc i k (by rw [mprod_len]; exact hi), mprod_en _ _ sbc ba bbc i k hi, mprod_len]
    have e1 : ∀ l, l < c.length → Gf.gm (Mt.en (mprod a b) i l) (Mt.en c l k) = Mt.xs b.length fun j => Gf.gm (Mt.en a i j) (Gf.gm (Mt.en b j l) (Mt.en c l k)) := by
      intro l _
      rw [mprod_en a b sb ba bb i l hi, Mt.xs_gm]
      apply Mt.xs_congr
      intro j _
      exact Gf.gm_assoc _ _ _ (ba.lt i j) (bb.lt j l) (bc.lt l k)
    have e2 : ∀ j, j < b.length → Gf.gm (Mt.en a i j) (Mt.en (mprod b c) j k) = Mt.xs c.length fun l => Gf.gm (Mt.en a i j) (Gf.gm (Mt.en b j l) (Mt.en c l k)) := by
      intro j hj
      rw [mprod_en b c sc bb bc j k hj, Mt.gm_xs]
    rw [Mt.xs_congr _ _ _ e1, Mt.xs_congr _ _ _ e2]
    exact Mt.xs_swap _ _ _

theorem ident_sq (n : Nat) : Mt.Sq n (ident n) where
  len := idK_len n n
  row i hi := idK_row n n i hi
  byte := by
    intro i
    by_cases hi : i < n
    · refine bytes_of _ fun j hj => ?_
      have hj' : j < n := by have := idK_row n n i hi; rw [ident] at hj; omega
      show Mt.en (ident n) i j < 256
      rw [ident_en n i j hi hj']
      split <;> omega
    · rw [show (ident n).getD i [] = [] by rw [List.getD_eq_getElem?_getD, List.getElem?_eq_none (by rw [ident, idK_len]; omega)]; rfl]
      exact bytes_nil

theorem mprod_ident (a : List (List Nat)) (n : Nat) (sa : Sd a) (ba : Mt.By a) (hn : (a.getD 0 []).length = n) : mprod a (ident n) = a := by
  have h0 : 0 < n := by rw [← hn]; exact sa.2.1
  have sI := Sd.of_sq (ident_sq n) h0
  refine mat_congr _ _ n (by rw [mprod_len]) (fun i hi => ?_) (fun i hi => ?_) (fun i hi k hk => ?_)
  · rw [mprod_len] at hi; rw [mprod_row _ _ i hi]; exact idK_row n n 0 h0
  · rw [mprod_len] at hi; rw [sa.2.2 i hi, hn]
  · rw [mprod_len] at hi
    rw [mprod_en a _ sI ba (ident_sq n).byte i k hi, (ident_sq n).len, Mt.xs_one n k _ hk (fun l hl hne => by rw [ident_en n l k hl hk, if_neg hne, Gf.gm_zero]), ident_en n k k hk hk, if_pos rfl, Gf.gm_one _ (ba.lt i k)]



end Go.Proofs.Ytnhledngeicekaa
