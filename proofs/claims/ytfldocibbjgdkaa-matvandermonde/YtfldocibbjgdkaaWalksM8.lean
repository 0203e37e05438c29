/-
  What mat.Vander and the reference's Product do.
-/
import Derived.Test.YtfldocibbjgdkaaWalksM7
namespace Go.Proofs.Ytfldocibbjgdkaa
open Go.RowKit

/-- A row of powers, the first q laid. -/
def vrK (x k : Nat) : Nat → List Nat
  | 0 => List.replicate k 0
  | q + 1 => (vrK x k q).set q (Gf.ipow x q)

theorem vrK_len (x k q : Nat) : (vrK x k q).length = k := by
  induction q with
  | zero => simp [vrK]
  | succ q ih => simp [vrK, ih]

theorem vrK_get (x k q j : Nat) (hj : j < k) : (vrK x k q).getD j 0 = if j < q then Gf.ipow x j else 0 := by
  induction q with
  | zero => show (List.replicate k 0).getD j 0 = _; rw [getD_rep _ _ _ _ hj, if_neg (by omega)]
  | succ q ih =>
    by_cases e : j = q
    · subst e; rw [vrK, getD_set_eq _ _ _ _ (by rw [vrK_len]; exact hj), if_pos (by omega)]
    · rw [vrK, getD_set_ne _ _ _ _ _ e, ih]
      by_cases h : j < q
      · rw [if_pos h, if_pos (by omega)]
      · rw [if_neg h, if_neg (by omega)]

theorem pows_get (x k j : Nat) (hj : j < k) : (pows x k).getD j 0 = Gf.ipow x j := by
  simp [pows, hj]

theorem vrK_all (x k : Nat) : vrK x k k = pows x k := by
  refine getD_congr _ _ 0 (by rw [vrK_len, pows_len]) fun i hi => ?_
  rw [vrK_len] at hi
  rw [vrK_get _ _ _ _ hi, if_pos hi, pows_get _ _ _ hi]

/-- Rows of powers, the first i done. -/
def vmK (n k : Nat) : Nat → List (List Nat)
  | 0 => List.replicate n (List.replicate k 0)
  | i + 1 => (vmK n k i).set i (pows i k)

theorem vmK_len (n k i : Nat) : (vmK n k i).length = n := by
  induction i with
  | zero => simp [vmK]
  | succ i ih => simp [vmK, ih]

theorem vmK_row (n k i j : Nat) (hj : j < n) : (vmK n k i).getD j [] = if j < i then pows j k else List.replicate k 0 := by
  induction i with
  | zero => show (List.replicate n (List.replicate k 0)).getD j [] = _; rw [getD_rep _ _ _ _ hj, if_neg (by omega)]
  | succ i ih =>
    by_cases e : j = i
    · subst e; rw [vmK, getD_set_eq _ _ _ _ (by rw [vmK_len]; exact hj), if_pos (by omega)]
    · rw [vmK, getD_set_ne _ _ _ _ _ e, ih]
      by_cases h : j < i
      · rw [if_pos h, if_pos (by omega)]
      · rw [if_neg h, if_neg (by omega)]

theorem vanK_row (k n j : Nat) (hj : j < n) : (vanK k n).getD j [] = pows j k := by simp [vanK, hj]

theorem vmK_all (n k : Nat) : vmK n k n = vanK k n := by
  refine getD_congr _ _ [] (by rw [vmK_len, vanK_len]) fun i hi => ?_
  rw [vmK_len] at hi
  rw [vmK_row _ _ _ _ hi, if_pos hi, vanK_row _ _ _ hi]

set_option maxRecDepth 100000 in
set_option maxHeartbeats 1000000 in
theorem vander_any (n k : Nat) (w : World) (hn : n ≤ 256) (hk : k ≤ 256) (hn1 : 1 ≤ n) (hk1 : 1 ≤ k) :
    Calls Try.prog 18 #[.int .i64 (n : Int), .int .i64 (k : Int)] w (RetM w n (vanK k n)) := by
  have hr := inRange_any n
  have hd : decide (1 ≤ (n : Int) ∧ (n : Int) ≤ 256) = true := by simp; omega
  rw [hd] at hr
  have HR := Lib.hid hr
  clear hr hd
  have hr := inRange_any k
  have hd : decide (1 ≤ (k : Int) ∧ (k : Int) ≤ 256) = true := by simp; omega
  rw [hd] at hr
  have HR2 := Lib.hid hr
  clear hr hd
  go_enter Try.func18, Try.ntmps18
  go_wp2_with fail
  refine (HR.out _).mono ?_
  rintro e w' ⟨rfl, rfl⟩
  go_wp2_with fail
  refine (HR2.out _).mono ?_
  rintro e w' ⟨rfl, rfl⟩
  go_wp2_with fail
  refine (made_ex _).mono ?_
  rintro e w3 ⟨rfl, cs, hcs, rfl⟩
  have ht := hcs.isTab w 53
  have hb3 := below_one w (.cells cs 53)
  have hs3 : w.heap.size < (w.alloc (.cells cs 53)).heap.size := by simp
  clear hcs
  generalize w.alloc (.cells cs 53) = w3 at *
  have HT3 := Lib.hid ht
  have HB3 := Lib.hid hb3
  clear ht hb3
  go_wp2_with fail
  refine (zeros_any n k _ (by omega) (by omega)).mono ?_
  rintro e w4 ⟨_, G, C, g, c, rfl, hO4, hb4⟩
  have hz3 := HB3.out.size
  have HT4 := Lib.hid (HT3.out.below hb4 hs3)
  have HB4 := Lib.hid (HB3.out.trans (hb4.mono hz3))
  have HO4 := Lib.hid hO4
  have hz4 := hb4.size
  clear hO4 hb4
  go_wp2
  go_loopw [7, 8, 9, 10, 25] (fun _ _ _ _ i ws => ∃ j : Nat, j ≤ n ∧ i = .int .i64 j ∧ Hid (OwnM ws w3.heap.size G C g c (vmK n k j)) ∧ Hid (Below w.heap.size w ws) ∧ Hid (IsTab ws w.heap.size) ∧ w3.heap.size ≤ ws.heap.size) (fun _ _ _ _ i _ => n - (intOf i).toNat)
  case atStart => exact ⟨0, Nat.zero_le _, rfl, HO4, HB4, HT4, hz4⟩
  case round =>
    obtain ⟨j, hj, rfl, hO, hb, hT, hz⟩ := hrel
    by_cases hlt : j < n
    · have hrl : ((vmK n k j).getD j []).length = k := by rw [vmK_row _ _ _ _ hlt, if_neg (by omega)]; simp
      have hcP := hO.out.cell j (by rw [vmK_len]; exact hlt)
      rw [hrl] at hcP
      have HO0 := Lib.hid (set_same (vmK n k j) j (vrK j k 0) [] (by rw [vmK_len]; exact hlt) (by rw [vmK_row _ _ _ _ hlt, if_neg (by omega)]; rfl))
      clear hrl
      go_wp2
      go_loopw [9, 10, 32] (fun p _ i ws => ∃ q : Nat, q ≤ k ∧ i = .int .i64 q ∧ p = .int .u8 ((Gf.ipow j q : Nat) : Int) ∧ Hid (OwnM ws w3.heap.size G C g c ((vmK n k j).set j (vrK j k q))) ∧ Hid (Below w.heap.size w ws) ∧ Hid (IsTab ws w.heap.size) ∧ w3.heap.size ≤ ws.heap.size) (fun _ _ i _ => k - (intOf i).toNat)
      case atStart => exact ⟨0, Nat.zero_le _, rfl, rfl, by rw [HO0.out]; exact hO, hb, hT, hz⟩
      case round =>
        clear hO hb hT hz hcP
        obtain ⟨q, hq, rfl, rfl, hO, hb, hT, hz⟩ := hrel
        by_cases hlq : q < k
        · have hlm : ((vmK n k j).set j (vrK j k q)).length = n := by rw [List.length_set, vmK_len]
          have hrw : ((vmK n k j).set j (vrK j k q)).getD j [] = vrK j k q := getD_set_eq _ _ _ _ (by rw [vmK_len]; exact hlt)
          have hRP := hO.out.row j (by rw [hlm]; exact hlt)
          rw [hrw] at hRP
          have hgj := hRP.lt.1
          have hcq := hRP.cell q (by rw [vrK_len]; exact hlq)
          have hfq := hRP.frozen q
          have hip := Gf.ipow_lt j q
          have HST := Lib.hid (hRP.stored q (Gf.ipow j q) hip)
          have HI : Hid (Gf.ipow j (q + 1) = Gf.gm (Gf.ipow j q) j) := rfl
          have HV : Hid (vrK j k (q + 1) = (vrK j k q).set q (Gf.ipow j q)) := rfl
          have HLM := Lib.hid hlm
          have HRW := Lib.hid hrw
          have HTT : Hid (∀ v, IsTab (wr.setCell ⟨g j, q, none⟩ v) w.heap.size) := fun v => hT.out.chg (gs := [g j]) (Chg.of_grown (World.ownsRow.stored hRP.own q v).2) (by simp; omega)
          clear hRP hlm hrw
          generalize (vrK j k q).getD q 0 = old at *
          generalize Gf.ipow j q = x at *
          go_wp2_with ((go_at_call 32; (with_reducible refine (tmul_any _ _ _ _ ?_ ?_ ?_).mono ?_); (exact HTT.out _); omega; omega; rintro e w' ⟨rfl, n5, rfl⟩))
          have hCC := HST.out.2.drewN n5
          go_round
          case rel =>
            refine ⟨q + 1, by omega, by go_num, by rw [HI.out], ?_, hCC.below hb.out hb.out.size (by simp; omega), hT.out.chg hCC (by simp; omega), Nat.le_trans hz hCC.size⟩
            rw [HV.out, ← set_set (vmK n k j) j (vrK j k q)]
            exact hO.out.setRow j (by rw [HLM.out]; exact hlt) _ hCC (HST.out.1.drewN n5) (by rw [List.length_set, HRW.out])
          case measure => simp [intOf]; omega
        · obtain rfl : q = k := by omega
          have HE := Lib.hid (vrK_all j q)
          have HV : Hid (vmK n q (j + 1) = (vmK n q j).set j (pows j q)) := rfl
          rw [HE.out, ← HV.out] at hO
          go_wp2
          go_round
          case rel => exact ⟨j + 1, by omega, by go_num, hO, hb, hT, hz⟩
          case measure => simp [intOf]; omega
    · obtain rfl : j = n := by omega
      have HE := Lib.hid (vmK_all j k)
      rw [HE.out] at hO
      go_wp2
      go_ret
      exact ⟨vanK_len _ _, _, _, _, _, rfl, hO.out.base (by omega), hb.out⟩

theorem vander_none (n k : Int) (w : World) (h : ¬ (1 ≤ n ∧ n ≤ 256 ∧ 1 ≤ k ∧ k ≤ 256)) :
    Calls Try.prog 18 #[.int .i64 n, .int .i64 k] w fun e w' => e = .returned (.slice none 0 0) ∧ w = w' := by
  by_cases h1 : 1 ≤ n ∧ n ≤ 256
  · have hr := inRange_any n
    have hd : decide (1 ≤ n ∧ n ≤ 256) = true := by simp; omega
    rw [hd] at hr
    have HR := Lib.hid hr
    clear hr hd
    have hr := inRange_any k
    have hd : decide (1 ≤ k ∧ k ≤ 256) = false := by simp; omega
    rw [hd] at hr
    have HR2 := Lib.hid hr
    clear hr hd h h1
    go_enter Try.func18, Try.ntmps18
    go_wp2_with fail
    refine (HR.out _).mono ?_
    rintro e w' ⟨rfl, rfl⟩
    go_wp2_with fail
    refine (HR2.out _).mono ?_
    rintro e w' ⟨rfl, rfl⟩
    go_wp2
    go_ret
    exact ⟨rfl, rfl⟩
  · have hr := inRange_any n
    have hd : decide (1 ≤ n ∧ n ≤ 256) = false := by simp; omega
    rw [hd] at hr
    have HR := Lib.hid hr
    clear hr hd h h1
    go_enter Try.func18, Try.ntmps18
    go_wp2_with fail
    refine (HR.out _).mono ?_
    rintro e w' ⟨rfl, rfl⟩
    go_wp2
    go_ret
    exact ⟨rfl, rfl⟩

/-- An element. -/
def ent (m : List (List Nat)) (i j : Nat) : Nat := (m.getD i []).getD j 0

/-- An element of the product, its first n terms done. -/
def pent (a b : List (List Nat)) (i k : Nat) : Nat → Nat
  | 0 => 0
  | n + 1 => pent a b i k n ^^^ Gf.gm (ent a i n) (ent b n k)

/-- A row of the product, its first q elements done. -/
def prow (a b : List (List Nat)) (i K : Nat) : Nat → List Nat
  | 0 => List.replicate K 0
  | q + 1 => (prow a b i K q).set q (pent a b i q b.length)

theorem prow_len (a b : List (List Nat)) (i K q : Nat) : (prow a b i K q).length = K := by
  induction q with
  | zero => simp [prow]
  | succ q ih => simp [prow, ih]

/-- The first i rows of the product. -/
def prK (a b : List (List Nat)) (K i : Nat) : List (List Nat) := (List.range i).map fun j => prow a b j K K
theorem prK_len (a b : List (List Nat)) (K i : Nat) : (prK a b K i).length = i := by simp [prK]
theorem prK_succ (a b : List (List Nat)) (K i : Nat) : prK a b K (i + 1) = prK a b K i ++ [prow a b i K K] := by simp [prK, List.range_succ]

theorem GridAt.ent_lt {w : World} {a : Option Addr} {cap : Nat} {m : List (List Nat)} (h : GridAt w a cap m) (i j : Nat) : ent m i j < 256 := by
  unfold ent
  by_cases hi : i < m.length
  · obtain ⟨_, _, _, _, _, _, hs⟩ := h.at i hi
    exact bytes_get _ _ hs.byte
  · rw [show m.getD i [] = [] by rw [List.getD_eq_getElem?_getD, List.getElem?_eq_none (by omega)]; rfl]
    simp

theorem pent_lt {w : World} {a : Option Addr} {cap : Nat} {m m' : List (List Nat)} (h : GridAt w a cap m) (i k n : Nat) : pent m m' i k n < 256 := by
  induction n with
  | zero => simp [pent]
  | succ n ih => exact Gf.x_lt _ _ ih (Gf.gm_lt _ _ (h.ent_lt i n))

set_option maxRecDepth 100000 in
set_option maxHeartbeats 2000000 in
theorem product_any (va vb : Option Addr) (vc vd : Nat) (a b : List (List Nat)) (w : World) (hA : GridAt w va vc a) (hB : GridAt w vb vd b) (sa : Sd a) (sb : Sd b) (hf : (a.getD 0 []).length = b.length)
    (hn : a.length ≤ 1000000) (hk : (b.getD 0 []).length ≤ 1000000) (hbl : b.length ≤ 1000000) :
    Calls Try.prog 14 #[.slice va a.length vc, .slice vb b.length vd] w (RetM w a.length (prK a b (b.getD 0 []).length a.length)) := by
  obtain ⟨b2, off2, ra2, rc2, e2, hcb, _⟩ := hB.at 0 sb.1
  rw [Nat.add_zero] at hcb
  subst e2
  have HA := Lib.hid hA
  have HB := Lib.hid hB
  have HRA := Lib.hid sa.2.2
  have HRB := Lib.hid sb.2.2
  have hb0 := sb.1
  clear hA hB sa sb
  generalize hkk : (b.getD 0 []).length = k at *
  clear hkk
  rw [hf] at HRA
  clear hf
  have HCB := Lib.hid hcb
  clear hcb
  have hmk := run_make_row' (P := Try.prog) 27 5 (.int .u8 0) 1 Try.underlying27 infoB rfl .i64 .i64 k (by omega) (by omega)
  go_enter Try.func14, Try.ntmps14
  go_wp2
  go_loopw [5, 6, 7, 8, 9, 10] (fun s i _ _ _ _ ws => ∃ (j G C : Nat) (g c : Nat → Nat), j ≤ a.length ∧ i = .int .i64 j ∧ s = .slice (some ⟨G, 0, none⟩) j C ∧ Hid (OwnM ws w.heap.size G C g c (prK a b k j)) ∧ Hid (Below w.heap.size w ws)) (fun _ i _ _ _ _ _ => a.length - (intOf i).toNat)
  case atStart => exact ⟨0, _, _, _, _, Nat.zero_le _, rfl, rfl, ownM_none w _ (Nat.le_refl _), below_one _ _⟩
  case round =>
    obtain ⟨j, G, C, g, c, hj, rfl, rfl, hO, hb⟩ := hrel
    have hbz := hb.out.size
    by_cases hlt : j < a.length
    · generalize wr = wo at *
      have hcb := cell_later hb.out HCB.out
      have HN := Lib.hid (ownB_made wo w.heap.size k hbz (by unfold maxLen; omega))
      obtain ⟨ba, offa, ra, rc, ea, hca0, hSa0⟩ := HA.out.at j hlt
      subst ea
      have hca1 := cell_later hb.out hca0
      rw [HRA.out j hlt] at hca1
      have HCA := Lib.hid hca1
      have HSA := Lib.hid (hSa0.below hb.out)
      have HLA := Lib.hid (HRA.out j hlt)
      clear hca0 hca1 hSa0
      go_wp2
      go_loopw [8, 9, 10] (fun i _ _ ws => ∃ q : Nat, q ≤ k ∧ i = .int .i64 q ∧ Hid (OwnB ws w.heap.size wo.heap.size k (prow a b j k q)) ∧ Hid (Below wo.heap.size wo ws)) (fun i _ _ _ => k - (intOf i).toNat)
      case atStart => exact ⟨0, Nat.zero_le _, rfl, HN, below_one _ _⟩
      case round =>
        obtain ⟨q, hq, rfl, hR, hbq⟩ := hrel
        have hzq := hbq.out.size
        by_cases hlq : q < k
        · generalize wr = wq at *
          go_wp2
          go_loopw [9, 10] (fun x i ws => ∃ n m : Nat, n ≤ b.length ∧ i = .int .i64 n ∧ x = .int .u8 ((pent a b j q n : Nat) : Int) ∧ ws = wq.drewN m) (fun _ i _ => b.length - (intOf i).toNat)
          case atStart => exact ⟨0, 0, Nat.zero_le _, rfl, rfl, rfl⟩
          case round =>
            obtain ⟨n, m, hn', rfl, rfl, hws⟩ := hrel
            have HW := Lib.hid hws
            have hpl := pent_lt (m' := b) HA.out j q n
            by_cases hln : n < b.length
            · have hbw : Below wo.heap.size wo wr := by rw [hws]; exact hbq.out.trans ((below_drewN _ _).mono hzq)
              have hca := cell_later hbw HCA.out
              obtain ⟨xb, xoff, e, hx0⟩ := HSA.out.cell n (by rw [HLA.out]; exact hln)
              subst e
              have hx := cell_later hbw hx0
              obtain ⟨b', off', rb, rcb, e, hcn0, hSn0⟩ := HB.out.at n hln
              cases e
              have hbw' := hb.out.trans (hbw.mono hbz)
              have hcn := cell_later hbw' hcn0
              rw [HRB.out n hln] at hcn
              obtain ⟨yb, yoff, e, hy0⟩ := hSn0.cell q (by rw [HRB.out n hln]; exact hlq)
              subst e
              have hy := cell_later hbw' hy0
              have he1 := HA.out.ent_lt j n
              have he2 := HB.out.ent_lt n q
              have HST : Hid (pent a b j q (n + 1) = pent a b j q n ^^^ Gf.gm (ent a j n) (ent b n q)) := rfl
              have hx' : wr.cell? ⟨xb, xoff + n, none⟩ = some (.int .u8 ((ent a j n : Nat) : Int)) := hx
              have hy' : wr.cell? ⟨yb, yoff + q, none⟩ = some (.int .u8 ((ent b n q : Nat) : Int)) := hy
              have hg := Gf.gm_lt (ent a j n) (ent b n q) he1
              have HX := Lib.hid (u8_xor_nat _ _ hpl hg)
              clear hws hbw hbw' hx hy hx0 hy0 hcn0 hSn0 hmk
              have i1 : (0 : Int) ≤ (j : Int) := by omega
              have i2 : (j : Int) < (a.length : Int) := by omega
              have i3 : (0 : Int) ≤ (n : Int) := by omega
              have i4 : (n : Int) < (b.length : Int) := by omega
              have i5 : (0 : Int) ≤ (q : Int) := by omega
              have i6 : (q : Int) < (k : Int) := by omega
              generalize ent a j n = x at *
              generalize ent b n q = y at *
              generalize pent a b j q n = z at *
              go_wp2
              go_quiet ((go_at_call 26; exact quiet_left' (ref_gm _ _ _ (by omega) (by omega))))
              go_wp2
              go_round
              case rel => exact ⟨n + 1, m + nq, by omega, by go_num, by rw [HST.out, ← HX.out], by rw [HW.out, World.drewN_drewN]⟩
              case measure => simp [intOf]; omega
            · obtain rfl : n = b.length := by omega
              have hR2 : OwnB wr w.heap.size wo.heap.size k (prow a b j k q) := hR.out.alike (by rw [hws]; rfl)
              have hcq := hR2.cell q (by rw [prow_len]; exact hlq)
              have hfq := hR2.frozen q
              have HST := Lib.hid (hR2.stored q _ hpl)
              have HV : Hid (prow a b j k (q + 1) = (prow a b j k q).set q (pent a b j q b.length)) := rfl
              have HCW : Hid (Chg [wo.heap.size] wq wr) := by show Chg _ _ _; rw [hws]; exact (Chg.refl _ _).drewN m
              clear hws hR2
              generalize (prow a b j k q).getD q 0 = old at *
              generalize pent a b j q b.length = z at *
              go_wp2
              go_round
              case rel => exact ⟨q + 1, by omega, by go_num, by rw [HV.out]; exact HST.out.1, (HCW.out.trans HST.out.2).below hbq.out hzq (by simp)⟩
              case measure => simp [intOf]; omega
        · obtain rfl : q = k := by omega
          have HL := Lib.hid (prK_len a b q j)
          have HPL := Lib.hid (prow_len a b j q q)
          have HOO := Lib.hid hO.out.outer
          rw [HL.out] at HOO
          have HO5 := Lib.hid ((Chg.of_below (gs := []) hbq.out).owns HOO.out (by simp))
          clear hmk
          go_wp2_with (at_builtin; refine wpList_appV rfl (.tmp 56) (.tmp 58) rfl w.heap.size G C j _ rfl (World.ownsRow.alloc HO5.out _) _ _ _ rfl (cell_new' _ _ _ _ (by simp)) rfl (by omega) (by simp; omega) ?_; intro G2 C2 w2 hown2 hC2 hat2)
          have HP : Hid (OwnM w2 w.heap.size G2 C2 (snoc j wo.heap.size g) (snoc j q c) (prK a b q (j + 1)) ∧ Chg [G] wo w2) := by
            have := hO.out.pushed hbq.out hR.out (Nat.le_refl _) _ (by simpa using hC2) (by rw [HL.out, HPL.out]; exact hown2)
            rw [HL.out] at this
            show OwnM _ _ _ _ _ _ _ ∧ _
            rw [prK_succ]
            exact this
          have hG1 := hO.out.lt.1
          go_round
          case rel => exact ⟨j + 1, G2, C2, _, _, by omega, by go_num, rfl, HP.out.1, HP.out.2.below hb.out hbz (by simp; exact hG1)⟩
          case measure => simp [intOf]; omega
    · obtain rfl : j = a.length := by omega
      go_wp2
      go_ret
      exact ⟨prK_len _ _ _ _, _, _, _, _, rfl, hO.out, hb.out⟩

end Go.Proofs.Ytfldocibbjgdkaa
