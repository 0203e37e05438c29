/-
  What mat.Vander and the reference's Product do.
-/
import Derived.Test.YtnhledngeicekaaWalksM7
namespace Go.Proofs.Ytnhledngeicekaa
open Go.RowKit

/-- A row of powers, the first q laid. -/
def vrK (x k : Nat) : Nat → List Nat
  | 0 => List.replicate k 0
  | q + 1 => (vrK x k q).set q (Gf.ipow x q)

theorem vrK_len (x k q : Nat) : (vrK x k q).length = k := by
  induction q with
  | zero => simp [vrK]
  | succ q ih => simp [vrK, ih]

theorem vrK_get (x k q j : Nat) (hj : j < k) : (vrK x k q).getD j 0 = if j < q then Gf.ipow x j else 0 := by
  induction q with
  | zero => show (List.replicate k 0).getD j 0 = _; rw [getD_rep _ _ _ _ hj, if_neg (by omega)]
  | succ q ih =>
    by_cases e : j = q
    · subst e; rw [vrK, getD_set_eq _ _ _ _ (by rw [vrK_len]; exact hj), if_pos (by omega)]
    · rw [vrK, getD_set_ne _ _ _ _ _ e, ih]
      by_cases h : j < q
      · rw [if_pos h, if_pos (by omega)]
      · rw [if_neg h, if_neg (by omega)]

theorem pows_get (x k j : Nat) (hj : j < k) : (pows x k).getD j 0 = Gf.ipow x j := by
  simp [pows, hj]

theorem vrK_all (x k : Nat) : vrK x k k = pows x k := by
  refine getD_congr _ _ 0 (by rw [vrK_len, pows_len]) fun i hi => ?_
  rw [vrK_len] at hi
  rw [vrK_get _ _ _ _ hi, if_pos hi, pows_get _ _ _ hi]

/-- Rows of powers, the first i done. -/
def vmK (n k : Nat) : Nat → List (List Nat)
  | 0 => List.replicate n (List.replicate k 0)
  | i + 1 => (vmK n k i).set i (pows i k)

theorem vmK_len (n k i : Nat) : (vmK n k i).length = n := by
  induction i with
  | zero => simp [vmK]
  | succ i ih => simp [vmK, ih]

theorem vmK_row (n k i j : Nat) (hj : j < n) : (vmK n k i).getD j [] = if j < i then pows j k else List.replicate k 0 := by
  induction i with
  | zero => show (List.replicate n (List.replicate k 0)).getD j [] = _; rw [getD_rep _ _ _ _ hj, if_neg (by omega)]
  | succ i ih =>
    by_cases e : j = i
    · subst e; rw [vmK, getD_set_eq _ _ _ _ (by rw [vmK_len]; exact hj), if_pos (by omega)]
    · rw [vmK, getD_set_ne _ _ _ _ _ e, ih]
      by_cases h : j < i
      · rw [if_pos h, if_pos (by omega)]
      · rw [if_neg h, if_neg (by omega)]

theorem vanK_row (k n j : Nat) (hj : j < n) : (vanK k n).getD j [] = pows j k := by simp [vanK, hj]

theorem vmK_all (n k : Nat) : vmK n k n = vanK k n := by
  refine getD_congr _ _ [] (by rw [vmK_len, vanK_len]) fun i hi => ?_
  rw [vmK_len] at hi
  rw [vmK_row _ _ _ _ hi, if_pos hi, vanK_row _ _ _ hi]

set_option maxRecDepth 100000 in
set_option maxHeartbeats 1000000 in
theorem vander_any (n k : Nat) (w : World) (hn : n ≤ 256) (hk : k ≤ 256) (hn1 : 1 ≤ n) (hk1 : 1 ≤ k) :
    Calls Try.prog 32 #[.int .i64 (n : Int), .int .i64 (k : Int)] w (RetM w n (vanK k n)) := by
  have hr := inRange_any n
  have hd : decide (1 ≤ (n : Int) ∧ (n : Int) ≤ 256) = true := by simp; omega
  rw [hd] at hr
  have HR := Lib.hid hr
  clear hr hd
  have hr := inRange_any k
  have hd : decide (1 ≤ (k : Int) ∧ (k : Int) ≤ 256) = true := by simp; omega
  rw [hd] at hr
  have HR2 := Lib.hid hr
  clear hr hd
  go_enter Try.func32, Try.ntmps32
  go_wp2_with fail
  refine (HR.out _).mono ?_
  rintro e w' ⟨rfl, rfl⟩
  go_wp2_with fail
  refine (HR2.out _).mono ?_
  rintro e w' ⟨rfl, rfl⟩
  go_wp2_with fail
  refine (made_ex _).mono ?_
  rintro e w3 ⟨rfl, cs, hcs, rfl⟩
  have ht := hcs.isTab w 77
  have hb3 := below_one w (.cells cs 77)
  have hs3 : w.heap.size < (w.alloc (.cells cs 77)).heap.size := by simp
  clear hcs
  generalize w.alloc (.cells cs 77) = w3 at *
  have HT3 := Lib.hid ht
  have HB3 := Lib.hid hb3
  clear ht hb3
  go_wp2_with fail
  refine (zeros_any n k _ (by omega) (by omega)).mono ?_
  rintro e w4 ⟨_, G, C, g, c, rfl, hO4, hb4⟩
  have hz3 := HB3.out.size
  have HT4 := Lib.hid (HT3.out.below hb4 hs3)
  have HB4 := Lib.hid (HB3.out.trans (hb4.mono hz3))
  have HO4 := Lib.hid hO4
  have hz4 := hb4.size
  clear hO4 hb4
  go_wp2
  go_loopw [7, 8, 9, 10, 25] (fun _ _ _ _ i ws => ∃ j : Nat, j ≤ n ∧ i = .int .i64 j ∧ Hid (OwnM ws w3.heap.size G C g c (vmK n k j)) ∧ Hid (Below w.heap.size w ws) ∧ Hid (IsTab ws w.heap.size) ∧ w3.heap.size ≤ ws.heap.size) (fun _ _ _ _ i _ => n - (intOf i).toNat)
  case atStart => exact ⟨0, Nat.zero_le _, rfl, HO4, HB4, HT4, hz4⟩
  case round =>
    obtain ⟨j, hj, rfl, hO, hb, hT, hz⟩ := hrel
    by_cases hlt : j < n
    · have hrl : ((vmK n k j).getD j []).length = k := by rw [vmK_row _ _ _ _ hlt, if_neg (by omega)]; simp
      have hcP := hO.out.cell j (by rw [vmK_len]; exact hlt)
      rw [hrl] at hcP
      have HO0 := Lib.hid (set_same (vmK n k j) j (vrK j k 0) [] (by rw [vmK_len]; exact hlt) (by rw [vmK_row _ _ _ _ hlt, if_neg (by omega)]; rfl))
      clear hrl
      go_wp2
      go_loopw [9, 10, 32] (fun p _ i ws => ∃ q : Nat, q ≤ k ∧ i = .int .i64 q ∧ p = .int .u8 ((Gf.ipow j q : Nat) : Int) ∧ Hid (OwnM ws w3.heap.size G C g c ((vmK n k j).set j (vrK j k q))) ∧ Hid (Below w.heap.size w ws) ∧ Hid (IsTab ws w.heap.size) ∧ w3.heap.size ≤ ws.heap.size) (fun _ _ i _ => k - (intOf i).toNat)
      case atStart => exact ⟨0, Nat.zero_le _, rfl, rfl, by rw [HO0.out]; exact hO, hb, hT, hz⟩
      case round =>
        clear hO hb hT hz hcP
        obtain ⟨q, hq, rfl, rfl, hO, hb, hT, hz⟩ := hrel
        by_cases hlq : q < k
        · have hlm : ((vmK n k j).set j (vrK j k q)).length = n := by rw [List.length_set, vmK_len]
          have hrw : ((vmK n k j).set j (vrK j k q)).getD j [] = vrK j k q := getD_set_eq _ _ _ _ (by rw [vmK_len]; exact hlt)
          have hRP := hO.out.row j (by rw [hlm]; exact hlt)
          rw [hrw] at hRP
          have hgj := hRP.lt.1
          have hcq := hRP.cell q (by rw [vrK_len]; exact hlq)
          have hfq := hRP.frozen q
          have hip := Gf.ipow_lt j q
          have HST := Lib.hid (hRP.stored q (Gf.ipow j q) hip)
          have HI : Hid (Gf.ipow j (q + 1) = Gf.gm (Gf.ipow j q) j) := rfl
          have HV : Hid (vrK j k (q + 1) = (vrK j k q).set q (Gf.ipow j q)) := rfl
          have HLM := Lib.hid hlm
          have HRW := Lib.hid hrw
          have HTT : Hid (∀ v, IsTab (wr.setCell ⟨g j, q, none⟩ v) w.heap.size) := fun v => hT.out.chg (gs := [g j]) (Chg.of_grown (World.ownsRow.stored hRP.own q v).2) (by simp; omega)
          clear hRP hlm hrw
          generalize (vrK j k q).getD q 0 = old at *
          generalize Gf.ipow j q = x at *
          go_wp2_with ((go_at_call 39; (with_reducible refine (tmul_any _ _ _ _ ?_ ?_ ?_).mono ?_); (exact HTT.out _); omega; omega; rintro e w' ⟨rfl, n5, rfl⟩))
          have hCC := HST.out.2.drewN n5
          go_round
          case rel =>
            refine ⟨q + 1, by omega, by go_num, by rw [HI.out], ?_, hCC.below hb.out hb.out.size (by simp; omega), hT.out.chg hCC (by simp; omega), Nat.le_trans hz hCC.size⟩
            rw [HV.out, ← set_set (vmK n k j) j (vrK j k q)]
            exact hO.out.setRow j (by rw [HLM.out]; exact hlt) _ hCC (HST.out.1.drewN n5) (by rw [List.length_set, HRW.out])
          case measure => simp [intOf]; omega
        · obtain rfl : q = k := by omega
          have HE := Lib.hid (vrK_all j q)
          have HV : Hid (vmK n q (j + 1) = (vmK n q j).set j (pows j q)) := rfl
          rw [HE.out, ← HV.out] at hO
          go_wp2
          go_round
          case rel => exact ⟨j + 1, by omega, by go_num, hO, hb, hT, hz⟩
          case measure => simp [intOf]; omega
    · obtain rfl : j = n := by omega
      have HE := Lib.hid (vmK_all j k)
      rw [HE.out] at hO
      go_wp2
      go_ret
      exact ⟨vanK_len _ _, _, _, _, _, rfl, hO.out.base (by omega), hb.out⟩

theorem vander_none (n k : Int) (w : World) (h : ¬ (1 ≤ n ∧ n ≤ 256 ∧ 1 ≤ k ∧ k ≤ 256)) :
    Calls Try.prog 32 #[.int .i64 n, .int .i64 k] w fun e w' => e = .returned (.slice none 0 0) ∧ w = w' := by
  by_cases h1 : 1 ≤ n ∧ n ≤ 256
  · have hr := inRange_any n
    have hd : decide (1 ≤ n ∧ n ≤ 256) = true := by simp; omega
    rw [hd] at hr
    have HR := Lib.hid hr
    clear hr hd
    have hr := inRange_any k
    have hd : decide (1 ≤ k ∧ k ≤ 256) = false := by simp; omega
    rw [hd] at hr
    have HR2 := Lib.hid hr
    clear hr hd h h1
    go_enter Try.func32, Try.ntmps32
    go_wp2_with fail
    refine (HR.out _).mono ?_
    rintro e w' ⟨rfl, rfl⟩
    go_wp2_with fail
    refine (HR2.out _).mono ?_
    rintro e w' ⟨rfl, rfl⟩
    go_wp2
    go_ret
    exact ⟨rfl, rfl⟩
  · have hr := inRange_any n
    have hd : decide (1 ≤ n ∧ n ≤ 256) = false := by simp; omega
    rw [hd] at hr
    have HR := Lib.hid hr
    clear hr hd h h1
    go_enter Try.func32, Try.ntmps32
    go_wp2_with fail
    refine (HR.out _).mono ?_
    rintro e w' ⟨rfl, rfl⟩
    go_wp2
    go_ret
    exact ⟨rfl, rfl⟩

/-- An element. -/
def ent (m : List (List Nat)) (i j : Nat) : Nat := (m.getD i []).getD j 0

/-- An element of the product, its first n terms done. -/
def pent (a b : List (List Nat)) (i k : Nat) : Nat → Nat
  | 0 => 0
  | n + 1 => pent a b i k n ^^^ Gf.gm (ent a i n) (ent b n k)

/-- A row of the product, its first q elements done. -/
def prow (a b : List (List Nat)) (i K : Nat) : Nat → List Nat
  | 0 => List.replicate K 0
  | q + 1 => (prow a b i K q).set q (pent a b i q b.length)

theorem prow_len (a b : List (List Nat)) (i K q : Nat) : (prow a b i K q).length = K := by
  induction q with
  | zero => simp [prow]
  | succ q ih => simp [prow, ih]

/-- The first i rows of the product. -/
def prK (a b : List (List Nat)) (K i : Nat) : List (List Nat) := (List.range i).map fun j => prow a b j K K
theorem prK_len (a b : List (List Nat)) (K i : Nat) : (prK a b K i).length = i := by simp [prK]
theorem prK_succ (a b : List (List Nat)) (K i : Nat) : prK a b K (i + 1) = prK a b K i ++ [prow a b i K K] := by simp [prK, List.range_succ]

theorem GridAt.ent_lt {w : World} {a : Option Addr} {cap : Nat} {m : List (List Nat)} (h : GridAt w a cap m) (i j : Nat) : ent m i j < 256 := by
  unfold ent
  by_cases hi : i < m.length
  · obtain ⟨_, _, _, _, _, _, hs⟩ := h.at i hi
    exact bytes_get _ _ hs.byte
  · rw [show m.getD i [] = [] by rw [List.getD_eq_getElem?_getD, List.getElem?_eq_none (by omega)]; rfl]
    simp

theorem pent_lt {w : World} {a : Option Addr} {cap : Nat} {m m' : List (List Nat)} (h : GridAt w a cap m) (i k n : Nat) : pent m m' i k n < 256 := by
  induction n with
  | zero => simp [pent]
  | succ n ih => exact Gf.x_lt _ _ ih (Gf.gm_lt _ _ (h.ent_lt i n))

end Go.Proofs.Ytnhledngeicekaa
