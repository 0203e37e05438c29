/-
  slices.Index and Contains over integers; the reference's Pos; conf: fits, nodes, Sound, Pos, at, beside, Next, Prev, Head, Tail.
-/
import Derived.Test.YtepimdkpkfbgcaaInts
import Derived.Test.YtepimdkpkfbgcaaCf
namespace Go.Proofs.Ytepimdkpkfbgcaa
open Go.RowKit

theorem ret_boolZ {a b : Bool} (h : a = b) : Ending.returned (.bool a) = .returned (.bool b) := by rw [h]
theorem ret_intZ {a b : Int} (h : a = b) : Ending.returned (.int .i64 a) = .returned (.int .i64 b) := by rw [h]
theorem ret_twoZ {a b : Int} {c d : Bool} (h : a = b) (h' : c = d) : Ending.returned (.tuple #[.int .i64 a, .bool c]) = .returned (.tuple #[.int .i64 b, .bool d]) := by rw [h, h']

set_option maxHeartbeats 1000000 in
theorem index_any (a : Option Addr) (cap l : Nat) (zs : List Int) (x : Int) (w : World) (hl : zs.length = l) (h : IntsAt w a cap zs) :
    Calls Try.prog 20 #[.slice a l cap, .int .i64 x] w fun e w' => e = .returned (.int .i64 (ix zs x)) ∧ w = w' := by
  have hm := Nat.le_trans h.le h.max
  rw [hl] at hm
  unfold maxLen at hm
  have HI := Lib.hid h
  have HL := Lib.hid hl
  clear h hl
  go_enter Try.func20, Try.ntmps20
  go_wp2
  go_loop [5, 8] (fun _ i => ∃ j : Nat, j ≤ l ∧ i = .int .i64 j ∧ Hid (∀ q, q < j → zs.getD q 0 ≠ x)) (fun _ i => l - (intOf i).toNat)
  case atStart => exact ⟨0, Nat.zero_le _, rfl, fun i hi => by omega⟩
  case round =>
    obtain ⟨j, hj, rfl, hN⟩ := hrel
    by_cases hlt : j < l
    · obtain ⟨b, off, rfl, hc⟩ := HI.out.cell j (by rw [HL.out]; exact hlt)
      have j0 : (0 : Int) ≤ (j : Int) := by omega
      have j1 : (j : Int) < (l : Int) := by omega
      obtain ⟨z, hz⟩ : ∃ z, zs.getD j 0 = z := ⟨_, rfl⟩
      rw [hz] at hc
      have HZ := Lib.hid hz
      clear hz
      by_cases he : z = x
      · have HE := Lib.hid he
        have hd : (x == z) = true := by simp; exact he.symm
        have HF : Hid (ix zs x = (j : Int)) := ix_first (by rw [HL.out]; exact hlt) (by rw [HZ.out]; exact he) hN.out
        clear he
        go_wp2
        go_ret
        exact ⟨ret_intZ HF.out.symm, rfl⟩
      · have HE := Lib.hid he
        have hd : (x == z) = false := by simp; exact fun e => he e.symm
        clear he
        go_wp2
        go_round
        case rel =>
          refine ⟨j + 1, by omega, by go_num, fun i hi => ?_⟩
          by_cases e : i = j
          · subst e; rw [HZ.out]; exact HE.out
          · exact hN.out i (by omega)
        case measure => simp [intOf]; omega
    · obtain rfl : j = l := by omega
      have HF : Hid (ix zs x = -1) := ix_none fun q hq => hN.out q (by rw [← HL.out]; exact hq)
      go_wp2
      go_ret
      exact ⟨ret_intZ HF.out.symm, rfl⟩

set_option maxHeartbeats 1000000 in
theorem contains_any (a : Option Addr) (cap l : Nat) (zs : List Int) (x : Int) (w : World) (hl : zs.length = l) (h : IntsAt w a cap zs) :
    Calls Try.prog 23 #[.slice a l cap, .int .i64 x] w fun e w' => e = .returned (.bool (decide (0 ≤ ix zs x))) ∧ w = w' := by
  have HI := Lib.hid h
  have HL := Lib.hid hl
  clear h hl
  go_enter Try.func23, Try.ntmps23
  go_wp2_with fail
  refine (index_any _ _ _ _ _ _ HL.out HI.out).mono ?_
  rintro e w' ⟨rfl, rfl⟩
  go_wp2
  go_ret
  exact ⟨rfl, rfl⟩

set_option maxHeartbeats 1000000 in
theorem refPos_any (ep : Int) (a : Option Addr) (cap l : Nat) (zs : List Int) (x : Int) (w : World) (hl : zs.length = l) (h : IntsAt w a cap zs) :
    Calls Try.prog 9 #[.agg #[.int .i64 ep, .slice a l cap], .int .i64 x] w fun e w' => e = .returned (.int .i64 (ix zs x)) ∧ Below w.heap.size w w' := by
  have hm := Nat.le_trans h.le h.max
  rw [hl] at hm
  unfold maxLen at hm
  have HB : Hid (Below w.heap.size w (w.alloc (.cells #[.int .i64 ep, .slice a l cap] 24))) := below_one w _
  have HI := Lib.hid (h.below HB.out)
  have HL := Lib.hid hl
  clear h hl
  go_enter Try.func9, Try.ntmps9
  go_wp2
  go_loop [5] (fun i => ∃ j : Nat, j ≤ l ∧ i = .int .i64 j ∧ Hid (∀ q, q < j → zs.getD q 0 ≠ x)) (fun i => l - (intOf i).toNat)
  case atStart => exact ⟨0, Nat.zero_le _, rfl, fun i hi => by omega⟩
  case round =>
    obtain ⟨j, hj, rfl, hN⟩ := hrel
    by_cases hlt : j < l
    · obtain ⟨b, off, rfl, hc⟩ := HI.out.cell j (by rw [HL.out]; exact hlt)
      have j0 : (0 : Int) ≤ (j : Int) := by omega
      have j1 : (j : Int) < (l : Int) := by omega
      obtain ⟨z, hz⟩ : ∃ z, zs.getD j 0 = z := ⟨_, rfl⟩
      rw [hz] at hc
      have HZ := Lib.hid hz
      clear hz
      by_cases he : z = x
      · have HE := Lib.hid he
        have HF : Hid (ix zs x = (j : Int)) := ix_first (by rw [HL.out]; exact hlt) (by rw [HZ.out]; exact he) hN.out
        subst he
        go_wp2
        go_ret
        exact ⟨ret_intZ HF.out.symm, HB.out⟩
      · have HE := Lib.hid he
        have hd : (z == x) = false := by simp; exact he
        clear he
        go_wp2
        go_round
        case rel =>
          refine ⟨j + 1, by omega, by go_num, fun i hi => ?_⟩
          by_cases e : i = j
          · subst e; rw [HZ.out]; exact HE.out
          · exact hN.out i (by omega)
        case measure => simp [intOf]; omega
    · obtain rfl : j = l := by omega
      have HF : Hid (ix zs x = -1) := ix_none fun q hq => hN.out q (by rw [← HL.out]; exact hq)
      go_wp2
      go_ret
      exact ⟨ret_intZ HF.out.symm, HB.out⟩

set_option maxHeartbeats 1000000 in
theorem fits_any (k m : Int) (w : World) (hk : -9223372036854775808 ≤ k ∧ k ≤ 9223372036854775807) (hm : -9223372036854775808 ≤ m ∧ m ≤ 9223372036854775807) :
    Calls Try.prog 18 #[.int .i64 k, .int .i64 m] w fun e w' => e = .returned (.bool (fitB k m)) ∧ w = w' := by
  by_cases h1 : 1 ≤ k
  · by_cases h2 : 0 ≤ m
    · have HF : Hid (decide (k ≤ 16 - m) = fitB k m) := by show _ = _; simp [fitB, h1, h2]
      have d1 : decide (1 ≤ k) = true := by simp; exact h1
      have d2 : decide (0 ≤ m) = true := by simp; exact h2
      go_enter Try.func18, Try.ntmps18
      go_wp2
      go_ret
      exact ⟨ret_boolZ HF.out, rfl⟩
    · have HF : Hid (false = fitB k m) := by show _ = _; simp [fitB, h2]
      have d1 : decide (1 ≤ k) = true := by simp; exact h1
      have d2 : decide (0 ≤ m) = false := by simp; omega
      go_enter Try.func18, Try.ntmps18
      go_wp2
      go_ret
      exact ⟨ret_boolZ HF.out, rfl⟩
  · have HF : Hid (false = fitB k m) := by show _ = _; simp [fitB, h1]
    have d1 : decide (1 ≤ k) = false := by simp; omega
    go_enter Try.func18, Try.ntmps18
    go_wp2
    go_ret
    exact ⟨ret_boolZ HF.out, rfl⟩

set_option maxHeartbeats 1000000 in
theorem nodes_any (a : Option Addr) (cap l : Nat) (zs : List Int) (w : World) (hl : zs.length = l) (h : IntsAt w a cap zs) :
    Calls Try.prog 19 #[.slice a l cap] w fun e w' => e = .returned (.bool (nodB zs)) ∧ w = w' := by
  have hm := Nat.le_trans h.le h.max
  have hle := h.le
  rw [hl] at hm hle
  unfold maxLen at hm
  have HI := Lib.hid h
  have HL := Lib.hid hl
  clear h hl
  go_enter Try.func19, Try.ntmps19
  go_wp2
  go_loop [3, 4, 7] (fun _ _ i => ∃ j : Nat, j ≤ l ∧ i = .int .i64 j ∧ Hid (∀ q, q < j → okAt zs q = true)) (fun _ _ i => l - (intOf i).toNat)
  case atStart => exact ⟨0, Nat.zero_le _, rfl, fun i hi => by omega⟩
  case round =>
    obtain ⟨j, hj, rfl, hN⟩ := hrel
    by_cases hlt : j < l
    · obtain ⟨b, off, rfl, hc⟩ := HI.out.cell j (by rw [HL.out]; exact hlt)
      have j0 : (0 : Int) ≤ (j : Int) := by omega
      have j1 : (j : Int) < (l : Int) := by omega
      have j2 : j ≤ cap := by omega
      have HT : Hid ((zs.take j).length = j) := by show _ = _; rw [List.length_take, HL.out]; omega
      have HO : Hid (okAt zs j = (decide (0 ≤ zs.getD j 0) && decide (zs.getD j 0 < 16) && decide (ix zs (zs.getD j 0) = (j : Int)))) := rfl
      have HX : Hid (ix (zs.take j) (zs.getD j 0) < 0 ↔ ix zs (zs.getD j 0) = (j : Int)) := ix_take (by rw [HL.out]; exact hlt)
      generalize zs.getD j 0 = z at *
      by_cases h1 : 0 ≤ z
      · by_cases h2 : z < 16
        · have d1 : decide (z < 0) = false := by simp; omega
          have d2 : decide (16 ≤ z) = false := by simp; omega
          by_cases h3 : ix (zs.take j) z < 0
          · have HK : Hid (okAt zs j = true) := by show _ = _; rw [HO.out]; simp; exact ⟨⟨h1, h2⟩, HX.out.mp h3⟩
            have d3 : decide (0 ≤ ix (zs.take j) z) = false := by simp; exact h3
            have HD := Lib.hid d3
            clear h1 h2 h3 d3
            go_wp2_with fail
            refine (contains_any _ _ _ (zs.take j) _ _ HT.out (HI.out.take j)).mono ?_
            rintro e w' ⟨rfl, rfl⟩
            rw [HD.out]
            go_wp2
            go_round
            case rel =>
              refine ⟨j + 1, by omega, by go_num, fun i hi => ?_⟩
              by_cases e : i = j
              · subst e; exact HK.out
              · exact hN.out i (by omega)
            case measure => simp [intOf]; omega
          · have HF : Hid (nodB zs = false) := nodB_no (i := j) (by rw [HL.out]; exact hlt) (by
              rw [HO.out]
              have : ¬ ix zs z = (j : Int) := fun e => h3 (HX.out.mpr e)
              simp [this])
            have d3 : decide (0 ≤ ix (zs.take j) z) = true := by simp; omega
            have HD := Lib.hid d3
            clear h1 h2 h3 d3
            go_wp2_with fail
            refine (contains_any _ _ _ (zs.take j) _ _ HT.out (HI.out.take j)).mono ?_
            rintro e w' ⟨rfl, rfl⟩
            rw [HD.out]
            go_wp2
            go_ret
            exact ⟨ret_boolZ HF.out.symm, rfl⟩
        · have d1 : decide (z < 0) = false := by simp; omega
          have d2 : decide (16 ≤ z) = true := by simp; omega
          have HF : Hid (nodB zs = false) := nodB_no (i := j) (by rw [HL.out]; exact hlt) (by rw [HO.out]; simp [h2])
          clear h1 h2
          go_wp2
          go_ret
          exact ⟨ret_boolZ HF.out.symm, rfl⟩
      · have d1 : decide (z < 0) = true := by simp; omega
        have HF : Hid (nodB zs = false) := nodB_no (i := j) (by rw [HL.out]; exact hlt) (by rw [HO.out]; simp [h1])
        clear h1
        go_wp2
        go_ret
        exact ⟨ret_boolZ HF.out.symm, rfl⟩
    · obtain rfl : j = l := by omega
      have HF : Hid (nodB zs = true) := nodB_yes fun q hq => hN.out q (by rw [← HL.out]; exact hq)
      go_wp2
      go_ret
      exact ⟨ret_boolZ HF.out.symm, rfl⟩

set_option maxHeartbeats 1000000 in
theorem cfSound_any (ep : Int) (a : Option Addr) (cap l : Nat) (zs : List Int) (k m : Int) (w : World) (hk : -9223372036854775808 ≤ k ∧ k ≤ 9223372036854775807) (hm : -9223372036854775808 ≤ m ∧ m ≤ 9223372036854775807) (hl : zs.length = l) (h : IntsAt w a cap zs) :
    Calls Try.prog 10 #[.agg #[.int .i64 ep, .slice a l cap], .int .i64 k, .int .i64 m] w fun e w' => e = .returned (.bool (cfB ep zs k m)) ∧ Below w.heap.size w w' := by
  have HB : Hid (Below w.heap.size w (w.alloc (.cells #[.int .i64 ep, .slice a l cap] 24))) := below_one w _
  have HI := Lib.hid (h.below HB.out)
  have HL := Lib.hid hl
  have HC : Hid (cfB ep zs k m = (decide (1 ≤ ep) && decide (ep ≤ 1099511627776) && fitB k m && decide ((l : Int) = k + m) && nodB zs)) := by show _ = _; rw [← hl]; rfl
  clear h hl
  by_cases h1 : 1 ≤ ep
  · by_cases h2 : ep ≤ 1099511627776
    · have d1 : decide (ep < 1) = false := by simp; omega
      have d2 : decide (1099511627776 < ep) = false := by simp; omega
      cases h3 : fitB k m
      · have HF : Hid (cfB ep zs k m = false) := by show _ = _; rw [HC.out, h3]; simp
        have H3 := Lib.hid h3
        clear h1 h2 h3
        go_enter Try.func10, Try.ntmps10
        go_wp2_with fail
        refine (fits_any _ _ _ hk hm).mono ?_
        rintro e w' ⟨rfl, rfl⟩
        rw [H3.out]
        go_wp2
        go_ret
        exact ⟨ret_boolZ HF.out.symm, HB.out⟩
      · have hs : 1 ≤ k ∧ 0 ≤ m ∧ k ≤ 16 - m := by
          unfold fitB at h3
          simp only [Bool.and_eq_true, decide_eq_true_eq] at h3
          exact ⟨h3.1.1, h3.1.2, h3.2⟩
        have H3 := Lib.hid h3
        by_cases h4 : (l : Int) = k + m
        · have d4 : ((l : Int) == k + m) = true := by simp; exact h4
          have HF : Hid (cfB ep zs k m = nodB zs) := by show _ = _; rw [HC.out, h3]; simp [h1, h2, h4]
          clear h1 h2 h3 h4
          go_enter Try.func10, Try.ntmps10
          go_wp2_with fail
          refine (fits_any _ _ _ hk hm).mono ?_
          rintro e w' ⟨rfl, rfl⟩
          rw [H3.out]
          go_wp2_with fail
          refine (nodes_any _ _ _ _ _ HL.out HI.out).mono ?_
          rintro e w' ⟨rfl, rfl⟩
          go_wp2
          go_ret
          exact ⟨ret_boolZ HF.out.symm, HB.out⟩
        · have d4 : ((l : Int) == k + m) = false := by simp; exact h4
          have HF : Hid (cfB ep zs k m = false) := by show _ = _; rw [HC.out]; simp [h4]
          clear h1 h2 h3 h4
          go_enter Try.func10, Try.ntmps10
          go_wp2_with fail
          refine (fits_any _ _ _ hk hm).mono ?_
          rintro e w' ⟨rfl, rfl⟩
          rw [H3.out]
          go_wp2
          go_ret
          exact ⟨ret_boolZ HF.out.symm, HB.out⟩
    · have d1 : decide (ep < 1) = false := by simp; omega
      have d2 : decide (1099511627776 < ep) = true := by simp; omega
      have HF : Hid (cfB ep zs k m = false) := by show _ = _; rw [HC.out]; simp [h2]
      clear h1 h2
      go_enter Try.func10, Try.ntmps10
      go_wp2
      go_ret
      exact ⟨ret_boolZ HF.out.symm, HB.out⟩
  · have d1 : decide (ep < 1) = true := by simp; omega
    have HF : Hid (cfB ep zs k m = false) := by show _ = _; rw [HC.out]; simp [h1]
    clear h1
    go_enter Try.func10, Try.ntmps10
    go_wp2
    go_ret
    exact ⟨ret_boolZ HF.out.symm, HB.out⟩

set_option maxHeartbeats 1000000 in
theorem cfPos_any (ep : Int) (a : Option Addr) (cap l : Nat) (zs : List Int) (x : Int) (w : World) (hl : zs.length = l) (h : IntsAt w a cap zs) :
    Calls Try.prog 11 #[.agg #[.int .i64 ep, .slice a l cap], .int .i64 x] w fun e w' => e = .returned (.tuple #[.int .i64 (psV zs x), .bool (psO zs x)]) ∧ Below w.heap.size w w' := by
  have HB : Hid (Below w.heap.size w (w.alloc (.cells #[.int .i64 ep, .slice a l cap] 24))) := below_one w _
  have HI := Lib.hid (h.below HB.out)
  have HL := Lib.hid hl
  have HV : Hid (psV zs x = if ix zs x < 0 then 0 else ix zs x) := rfl
  have HO : Hid (psO zs x = decide (0 ≤ ix zs x)) := rfl
  clear h hl
  go_enter Try.func11, Try.ntmps11
  go_wp2_with fail
  refine (index_any _ _ _ _ _ _ HL.out HI.out).mono ?_
  rintro e w' ⟨rfl, rfl⟩
  generalize ix zs x = p at *
  by_cases hp : p < 0
  · have d1 : decide (p < 0) = true := by simp; exact hp
    have HF : Hid (psV zs x = 0 ∧ psO zs x = false) := by
      show _ ∧ _
      rw [HV.out, HO.out, if_pos hp]
      exact ⟨rfl, by simp; exact hp⟩
    clear hp
    go_wp2
    go_ret2
    exact ⟨ret_twoZ HF.out.1.symm HF.out.2.symm, HB.out⟩
  · have d1 : decide (p < 0) = false := by simp; omega
    have HF : Hid (psV zs x = p ∧ psO zs x = true) := by
      show _ ∧ _
      rw [HV.out, HO.out, if_neg hp]
      exact ⟨rfl, by simp; omega⟩
    clear hp
    go_wp2
    go_ret2
    exact ⟨ret_twoZ HF.out.1.symm HF.out.2.symm, HB.out⟩

set_option maxHeartbeats 1000000 in
theorem cfAt_any (ep : Int) (a : Option Addr) (cap l : Nat) (zs : List Int) (p : Int) (w : World) (hl : zs.length = l) (h : IntsAt w a cap zs) :
    Calls Try.prog 22 #[.agg #[.int .i64 ep, .slice a l cap], .int .i64 p] w fun e w' => e = .returned (.tuple #[.int .i64 (atV zs p), .bool (atO l p)]) ∧ Below w.heap.size w w' := by
  have HB : Hid (Below w.heap.size w (w.alloc (.cells #[.int .i64 ep, .slice a l cap] 24))) := below_one w _
  have HI := Lib.hid (h.below HB.out)
  have HL := Lib.hid hl
  clear h hl
  by_cases h1 : p < 0
  · have d1 : decide (p < 0) = true := by simp; exact h1
    have HF : Hid (atV zs p = 0 ∧ atO l p = false) := ⟨atV_no (atO_low h1), atO_low h1⟩
    clear h1
    go_enter Try.func22, Try.ntmps22
    go_wp2
    go_ret2
    exact ⟨ret_twoZ HF.out.1.symm HF.out.2.symm, HB.out⟩
  · have d1 : decide (p < 0) = false := by simp; omega
    by_cases h2 : (l : Int) ≤ p
    · have d2 : decide ((l : Int) ≤ p) = true := by simp; exact h2
      have HF : Hid (atV zs p = 0 ∧ atO l p = false) := ⟨atV_no (atO_high (by rw [HL.out]; exact h2)), atO_high h2⟩
      clear h1 h2
      go_enter Try.func22, Try.ntmps22
      go_wp2
      go_ret2
      exact ⟨ret_twoZ HF.out.1.symm HF.out.2.symm, HB.out⟩
    · have d2 : decide ((l : Int) ≤ p) = false := by simp; omega
      obtain ⟨j, rfl⟩ : ∃ j : Nat, p = (j : Int) := ⟨p.toNat, by omega⟩
      obtain ⟨b, off, rfl, hc⟩ := HI.out.cell j (by rw [HL.out]; omega)
      have HF : Hid (atV zs (j : Int) = zs.getD j 0 ∧ atO l (j : Int) = true) := ⟨atV_yes (by omega) (by rw [HL.out]; omega), atO_yes (by omega) (by omega)⟩
      have j0 : (0 : Int) ≤ (j : Int) := by omega
      have j1 : (j : Int) < (l : Int) := by omega
      generalize zs.getD j 0 = z at *
      clear h1 h2
      go_enter Try.func22, Try.ntmps22
      go_wp2
      go_ret2
      exact ⟨ret_twoZ HF.out.1.symm HF.out.2.symm, HB.out⟩

set_option maxHeartbeats 1000000 in
theorem beside_any (ep : Int) (a : Option Addr) (cap l : Nat) (zs : List Int) (x s : Int) (w : World) (hs : s = 1 ∨ s = -1) (hl : zs.length = l) (h : IntsAt w a cap zs) :
    Calls Try.prog 21 #[.agg #[.int .i64 ep, .slice a l cap], .int .i64 x, .int .i64 s] w fun e w' => e = .returned (.tuple #[.int .i64 (bsV zs x s), .bool (bsO zs x s)]) ∧ Below w.heap.size w w' := by
  have hm := Nat.le_trans h.le h.max
  rw [hl] at hm
  unfold maxLen at hm
  have HB : Hid (Below w.heap.size w (w.alloc (.cells #[.int .i64 ep, .slice a l cap] 24))) := below_one w _
  have HI := Lib.hid (h.below HB.out)
  have HL := Lib.hid hl
  have HV : Hid (bsV zs x s = if ix zs x < 0 then 0 else atV zs (ix zs x + s)) := rfl
  have HO : Hid (bsO zs x s = if ix zs x < 0 then false else atO l (ix zs x + s)) := by show _ = _; rw [← hl]; rfl
  have HR := ix_range zs x
  rw [hl] at HR
  have HPO : Hid (psO zs x = decide (0 ≤ ix zs x)) := rfl
  have HPV : Hid (psV zs x = if ix zs x < 0 then 0 else ix zs x) := rfl
  clear h hl
  have HX : Hid (Box (w.alloc (.cells #[.int .i64 ep, .slice a l cap] 24)) w.heap.size #[.int .i64 ep, .slice a l cap]) := box_new _ _ _ _ rfl
  by_cases hp : ix zs x < 0
  · have HF : Hid (bsV zs x s = 0 ∧ bsO zs x s = false) := by
      show _ ∧ _
      rw [HV.out, HO.out, if_pos hp, if_pos hp]
      exact ⟨rfl, rfl⟩
    have HP : Hid (psO zs x = false) := by show _ = _; rw [HPO.out]; simp; exact hp
    clear hp HR
    go_enter Try.func21, Try.ntmps21
    go_wp2_with fail
    refine (cfPos_any _ _ _ _ _ _ _ HL.out HI.out).mono ?_
    rintro e w2 ⟨rfl, hb2⟩
    rw [HP.out]
    have HB2 := Lib.hid (HB.out.trans (hb2.mono HB.out.size))
    clear hb2
    go_wp2
    go_ret2
    exact ⟨ret_twoZ HF.out.1.symm HF.out.2.symm, HB2.out⟩
  · have HF : Hid (bsV zs x s = atV zs (ix zs x + s) ∧ bsO zs x s = atO l (ix zs x + s)) := by
      show _ ∧ _
      rw [HV.out, HO.out, if_neg hp, if_neg hp]
      exact ⟨rfl, rfl⟩
    have HP : Hid (psO zs x = true) := by show _ = _; rw [HPO.out]; simp; omega
    have HQ : Hid (psV zs x = ix zs x) := by show _ = _; rw [HPV.out, if_neg hp]
    have hwr : IntKind.i64.wrap (ix zs x + s) = ix zs x + s := IntWalk.i64_in _ (by omega)
    clear hp HR
    go_enter Try.func21, Try.ntmps21
    go_wp2_with fail
    refine (cfPos_any _ _ _ _ _ _ _ HL.out HI.out).mono ?_
    rintro e w2 ⟨rfl, hb2⟩
    rw [HP.out, HQ.out]
    have HI2 := Lib.hid (HI.out.below hb2)
    obtain ⟨x0, x1⟩ := box2 (HX.out.below hb2)
    have HB2 := Lib.hid (HB.out.trans (hb2.mono HB.out.size))
    clear hb2
    go_wp2_with fail
    refine (cfAt_any _ _ _ _ _ _ _ HL.out HI2.out).mono ?_
    rintro e w3 ⟨rfl, hb3⟩
    have HB3 := Lib.hid (HB2.out.trans (hb3.mono HB2.out.size))
    clear hb3
    go_wp2
    go_ret2
    exact ⟨ret_twoZ HF.out.1.symm HF.out.2.symm, HB3.out⟩

set_option maxHeartbeats 1000000 in
theorem cfNext_any (ep : Int) (a : Option Addr) (cap l : Nat) (zs : List Int) (x : Int) (w : World) (hl : zs.length = l) (h : IntsAt w a cap zs) :
    Calls Try.prog 12 #[.agg #[.int .i64 ep, .slice a l cap], .int .i64 x] w fun e w' => e = .returned (.tuple #[.int .i64 (bsV zs x 1), .bool (bsO zs x 1)]) ∧ Below w.heap.size w w' := by
  have HB : Hid (Below w.heap.size w (w.alloc (.cells #[.int .i64 ep, .slice a l cap] 24))) := below_one w _
  have HI := Lib.hid (h.below HB.out)
  have HL := Lib.hid hl
  clear h hl
  go_enter Try.func12, Try.ntmps12
  go_wp2_with fail
  refine (beside_any _ _ _ _ _ _ _ _ (.inl rfl) HL.out HI.out).mono ?_
  rintro e w2 ⟨rfl, hb2⟩
  have HB2 := Lib.hid (HB.out.trans (hb2.mono HB.out.size))
  clear hb2
  go_wp2
  go_ret2
  exact ⟨rfl, HB2.out⟩

set_option maxHeartbeats 1000000 in
theorem cfPrev_any (ep : Int) (a : Option Addr) (cap l : Nat) (zs : List Int) (x : Int) (w : World) (hl : zs.length = l) (h : IntsAt w a cap zs) :
    Calls Try.prog 13 #[.agg #[.int .i64 ep, .slice a l cap], .int .i64 x] w fun e w' => e = .returned (.tuple #[.int .i64 (bsV zs x (-1)), .bool (bsO zs x (-1))]) ∧ Below w.heap.size w w' := by
  have HB : Hid (Below w.heap.size w (w.alloc (.cells #[.int .i64 ep, .slice a l cap] 24))) := below_one w _
  have HI := Lib.hid (h.below HB.out)
  have HL := Lib.hid hl
  clear h hl
  go_enter Try.func13, Try.ntmps13
  go_wp2_with fail
  refine (beside_any _ _ _ _ _ _ _ _ (.inr rfl) HL.out HI.out).mono ?_
  rintro e w2 ⟨rfl, hb2⟩
  have HB2 := Lib.hid (HB.out.trans (hb2.mono HB.out.size))
  clear hb2
  go_wp2
  go_ret2
  exact ⟨rfl, HB2.out⟩

set_option maxHeartbeats 1000000 in
theorem cfHead_any (ep : Int) (a : Option Addr) (cap l : Nat) (zs : List Int) (w : World) (hl : zs.length = l) (h : IntsAt w a cap zs) :
    Calls Try.prog 14 #[.agg #[.int .i64 ep, .slice a l cap]] w fun e w' => e = .returned (.tuple #[.int .i64 (atV zs 0), .bool (atO l 0)]) ∧ Below w.heap.size w w' := by
  have HB : Hid (Below w.heap.size w (w.alloc (.cells #[.int .i64 ep, .slice a l cap] 24))) := below_one w _
  have HI := Lib.hid (h.below HB.out)
  have HL := Lib.hid hl
  clear h hl
  go_enter Try.func14, Try.ntmps14
  go_wp2_with fail
  refine (cfAt_any _ _ _ _ _ _ _ HL.out HI.out).mono ?_
  rintro e w2 ⟨rfl, hb2⟩
  have HB2 := Lib.hid (HB.out.trans (hb2.mono HB.out.size))
  clear hb2
  go_wp2
  go_ret2
  exact ⟨rfl, HB2.out⟩

set_option maxHeartbeats 1000000 in
theorem cfTail_any (ep : Int) (a : Option Addr) (cap l : Nat) (zs : List Int) (w : World) (hl : zs.length = l) (h : IntsAt w a cap zs) :
    Calls Try.prog 15 #[.agg #[.int .i64 ep, .slice a l cap]] w fun e w' => e = .returned (.tuple #[.int .i64 (atV zs ((l : Int) - 1)), .bool (atO l ((l : Int) - 1))]) ∧ Below w.heap.size w w' := by
  have hm := Nat.le_trans h.le h.max
  rw [hl] at hm
  unfold maxLen at hm
  have HB : Hid (Below w.heap.size w (w.alloc (.cells #[.int .i64 ep, .slice a l cap] 24))) := below_one w _
  have HI := Lib.hid (h.below HB.out)
  have HL := Lib.hid hl
  clear h hl
  go_enter Try.func15, Try.ntmps15
  go_wp2_with fail
  refine (cfAt_any _ _ _ _ _ _ _ HL.out HI.out).mono ?_
  rintro e w2 ⟨rfl, hb2⟩
  have HB2 := Lib.hid (HB.out.trans (hb2.mono HB.out.size))
  clear hb2
  go_wp2
  go_ret2
  exact ⟨rfl, HB2.out⟩

end Go.Proofs.Ytepimdkpkfbgcaa
