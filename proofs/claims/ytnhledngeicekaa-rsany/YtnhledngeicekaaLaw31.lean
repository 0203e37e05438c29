/-
  The walk of the law RsCodes.
-/
import Derived.Test.YtnhledngeicekaaAwake3
import Derived.Test.YtnhledngeicekaaWalksS3
namespace Go.Proofs.Ytnhledngeicekaa
open Go.RowKit

theorem quiet_more {P : Program} {f : FuncId} {args : Array Value} {w : World} {n : Nat} {v : Value}
    (h : Calls P f args (w.drewN n) fun e w' => e = .returned v ∧ ∃ m, w' = (w.drewN n).drewN m) : Calls P f args (w.drewN n) fun e w'' => e = .returned v ∧ ∃ m, w'' = w.drewN m :=
  h.mono fun _ _ ⟨h1, m, h2⟩ => ⟨h1, n + m, by rw [h2, World.drewN_drewN]⟩

theorem unitv_set (k i : Nat) (hi : i < k) : (List.replicate k 0).set i 1 = unitv k i := by
  refine getD_congr _ _ 0 (by simp [unitv]) fun j hj => ?_
  have hj' : j < k := by simpa using hj
  rw [unitv_get k i j hj']
  by_cases e : j = i
  · subst e; rw [getD_set_eq _ _ _ _ (by simpa using hj'), if_pos rfl]
  · rw [getD_set_ne _ _ _ _ _ e, getD_rep _ _ _ _ hj', if_neg e]

theorem wf_sub {x : Int} (h1 : -9223372036854775808 ≤ x) (h2 : x ≤ 9223372036854775807) : (Lit.int .i64 x).wf = true := by
  simp [Lit.wf, IntKind.min, IntKind.max, IntKind.signed, IntKind.bits]
  omega





set_option maxRecDepth 100000 in
set_option maxHeartbeats 8000000 in
theorem rsCodes_walk (a0 a1 : Int) (w : World) (w0 : (Lit.int .i64 a0).wf = true) (w1 : (Lit.int .i64 a1).wf = true) :
    Calls Try.prog 3 #[.int .i64 a0, .int .i64 a1] w fun e w' => e = .returned (.bool true) ∧ Below w.heap.size w w' := by
  have HW0 := Lib.hid w0
  have HW1 := Lib.hid w1
  have b0 := wf64 w0
  have b1 := wf64 w1
  clear w0 w1
  go_enter Try.func3, Try.ntmps3
  go_upto_region 1 with fail
  go_cut [25] (fun s wx => (∃ b, s = .bool b) ∧ wx = w)
  case first =>
    by_cases c1 : 6 < a0
    · have d1 : decide (6 < a0) = true := decide_eq_true c1
      by_cases c2 : a0 ≤ 255
      · have d2 : decide (a0 ≤ 255) = true := decide_eq_true c2
        by_cases c3 : 0 ≤ a1
        · have d3 : decide (0 ≤ a1) = true := decide_eq_true c3
          by_cases c4 : a1 ≤ 255 - a0
          · have d4 : decide (a1 ≤ 255 - a0) = true := decide_eq_true c4
            go_wp2_with fail
            go_meet
            exact ⟨⟨_, rfl⟩, rfl⟩
          · have d4 : decide (a1 ≤ 255 - a0) = false := decide_eq_false c4
            go_wp2_with fail
            go_meet
            exact ⟨⟨_, rfl⟩, rfl⟩
        · have d3 : decide (0 ≤ a1) = false := decide_eq_false c3
          go_wp2_with fail
          go_meet
          exact ⟨⟨_, rfl⟩, rfl⟩
      · have d2 : decide (a0 ≤ 255) = false := decide_eq_false c2
        go_wp2_with fail
        go_meet
        exact ⟨⟨_, rfl⟩, rfl⟩
    · have d1 : decide (6 < a0) = false := decide_eq_false c1
      go_wp2_with fail
      go_meet
      exact ⟨⟨_, rfl⟩, rfl⟩
  case rest =>
  obtain ⟨⟨b, rfl⟩, rfl⟩ := hcut
  go_upto_if 25 with fail
  go_cut [0] (fun s wx => (∃ x, s = .int .i64 x ∧ (Lit.int .i64 x).wf = true) ∧ wx = wc)
  case first =>
    cases b with
    | true => go_wp2_with fail; go_meet; exact ⟨⟨_, rfl, rfl⟩, rfl⟩
    | false => go_wp2_with fail; go_meet; exact ⟨⟨_, rfl, HW0.out⟩, rfl⟩
  case rest =>
  obtain ⟨⟨k, rfl, hkw⟩, rfl⟩ := hcut
  have HKW := Lib.hid hkw
  have bk := wf64 hkw
  clear hkw HW0 b0 a0
  go_upto_region 3 with fail
  go_cut [35] (fun s wx => (∃ b, s = .bool b) ∧ wx = wc)
  case first =>
    by_cases c1 : 6 < a1
    · have d1 : decide (6 < a1) = true := decide_eq_true c1
      by_cases c2 : a1 ≤ 249
      · have d2 : decide (a1 ≤ 249) = true := decide_eq_true c2
        by_cases c3 : k ≤ 6
        · have d3 : decide (k ≤ 6) = true := decide_eq_true c3
          go_wp2_with fail
          go_meet
          exact ⟨⟨_, rfl⟩, rfl⟩
        · have d3 : decide (k ≤ 6) = false := decide_eq_false c3
          go_wp2_with fail
          go_meet
          exact ⟨⟨_, rfl⟩, rfl⟩
      · have d2 : decide (a1 ≤ 249) = false := decide_eq_false c2
        go_wp2_with fail
        go_meet
        exact ⟨⟨_, rfl⟩, rfl⟩
    · have d1 : decide (6 < a1) = false := decide_eq_false c1
      go_wp2_with fail
      go_meet
      exact ⟨⟨_, rfl⟩, rfl⟩
  case rest =>
  obtain ⟨⟨b', rfl⟩, rfl⟩ := hcut
  go_upto_if 35 with fail
  go_cut [1] (fun s wx => (∃ x, s = .int .i64 x ∧ (Lit.int .i64 x).wf = true) ∧ wx = wc)
  case first =>
    cases b' with
    | true => go_wp2_with fail; go_meet; exact ⟨⟨_, rfl, rfl⟩, rfl⟩
    | false => go_wp2_with fail; go_meet; exact ⟨⟨_, rfl, HW1.out⟩, rfl⟩
  case rest =>
  obtain ⟨⟨m, rfl, hmw⟩, rfl⟩ := hcut
  have bm := wf64 hmw
  clear hmw HW1 b1 a1
  by_cases hM : May k m
  · obtain ⟨k', rfl⟩ : ∃ k' : Nat, k = (k' : Int) := ⟨k.toNat, by have := hM.1; omega⟩
    obtain ⟨m', rfl⟩ : ∃ m' : Nat, m = (m' : Int) := ⟨m.toNat, by have := hM.2.1; omega⟩
    obtain ⟨n, hn⟩ : ∃ n, k' + m' = n := ⟨_, rfl⟩
    have hk1 : 1 ≤ k' := by have := hM.1; omega
    have hn2 : n ≤ 255 := by have := hM.2.2; omega
    have HMY := Lib.hid (fun w => may_yes (k' : Int) (m' : Int) w hM)
    have HCY := Lib.hid (fun w => code_yes k' m' n w hk1 hn hn2)
    have t : ((n : Int) != (k' : Int) + (m' : Int)) = false := by simp; omega
    have hna : n ≤ k' + m' := by omega
    have hnb : k' + m' ≤ n := by omega
    clear hn hM HKW
    go_wp2_with fail
    refine (HCY.out _).mono ?_
    rintro e w1 ⟨C, hC, hl, a, cap, rfl, hA, hb1⟩
    obtain ⟨bC, offC, _, _, e, _, _⟩ := hA.at 0 (by rw [hl]; omega)
    subst e
    have HC := Lib.hid hC
    have HL := Lib.hid hl
    have HA := Lib.hid hA
    have HB1 := Lib.hid hb1
    clear hC hl hA hb1
    go_wp2_with fail
    refine (HMY.out _).mono ?_
    rintro e w' ⟨rfl, rfl⟩
    have hmk := run_make_row' (P := Try.prog) 28 5 (.int .u8 0) 1 Try.underlying28 infoB rfl .i64 .i64 k' (by omega) (by omega)
    go_wp2
    clear t
    go_loopw [7, 8, 9] (fun i _ _ ws => ∃ j : Nat, j ≤ n ∧ i = .int .i64 j ∧ Hid (Below w1.heap.size w1 ws)) (fun i _ _ _ => n - (intOf i).toNat)
    case atStart => exact ⟨0, Nat.zero_le _, rfl, Below.refl _ _⟩
    case round =>
      obtain ⟨j, hj, rfl, hb⟩ := hrel
      have hbz := hb.out.size
      by_cases hlt : j < n
      · have hlt' : (j : Int) < (k' : Int) + (m' : Int) := by omega
        obtain ⟨b', off', ra, rc, e, hcj0, hSj⟩ := HA.out.at j (by rw [HL.out]; exact hlt)
        cases e
        rw [HC.out.row j hlt] at hcj0
        have HCJ := Lib.hid hcj0
        have HSJ := Lib.hid hSj
        have HRJ := Lib.hid (HC.out.row j hlt)
        have hcj := cell_later hb.out hcj0
        have t1 : ((k' : Int) != (k' : Int)) = false := by simp
        have jn : (j : Int) < (n : Int) := by omega
        have j0 : (0 : Int) ≤ (j : Int) := by omega
        clear hcj0 hSj
        generalize wr = wo at *
        go_wp2
        clear hcj t1
        go_loopw [8, 9] (fun i _ ws => ∃ c : Nat, c ≤ k' ∧ i = .int .i64 c ∧ Hid (Below w1.heap.size w1 ws)) (fun i _ _ => k' - (intOf i).toNat)
        case atStart => exact ⟨0, Nat.zero_le _, rfl, hb⟩
        case round =>
          clear hb hbz
          obtain ⟨c, hc, rfl, hb⟩ := hrel
          have hbz := hb.out.size
          by_cases hlc : c < k'
          · have hcj := cell_later hb.out HCJ.out
            obtain ⟨xb, xoff, e, hx0⟩ := HSJ.out.cell c (by rw [HRJ.out]; exact hlc)
            subst e
            have hx := cell_later hb.out hx0
            have HVAL : Hid ((C.getD j []).getD c 0 = Mt.lagr (unitv k' c) j) := HC.out.val j hlt c hlc
            rw [HVAL.out] at hx
            have hcell : (madeCells #[.int .u8 0] k')[c]? = some (.int .u8 0) := by rw [← Array.getElem?_toList, toList_madeCells_one, List.getElem?_replicate, if_pos hlc]
            have HN := Lib.hid (ownB_lit wr w1.heap.size (unitv k' c) ((madeCells #[.int .u8 0] k').setIfInBounds c (.int .u8 1)) (by rw [Array.toList_setIfInBounds, toList_madeCells_one, ← unitv_set k' c hlc, ← vals_set, vals_rep]; rfl) (unitv_bytes k' c) hbz (by rw [unitv_len]; unfold maxLen; omega))
            have hxl := Mt.lagr_lt (unitv k' c) j (unitv_bytes k' c)
            have c0 : (0 : Int) ≤ (c : Int) := by omega
            have c1 : (c : Int) < (k' : Int) := by omega
            clear hx0
            go_upto_region 20 with fail
            have hcj' := cell_later (below_one wr (.cells ((madeCells #[.int .u8 0] k').setIfInBounds c (.int .u8 1)) 5)) hcj
            have hx' := cell_later (below_one wr (.cells ((madeCells #[.int .u8 0] k').setIfInBounds c (.int .u8 1)) 5)) hx
            have HBW := Lib.hid (hb.out.alloc hbz (.cells ((madeCells #[.int .u8 0] k').setIfInBounds c (.int .u8 1)) 5))
            have HSV := Lib.hid HN.out.seenAt
            rw [unitv_len] at HSV
            generalize wr.alloc (.cells ((madeCells #[.int .u8 0] k').setIfInBounds c (.int .u8 1)) 5) = wq at *
            generalize wr.heap.size = VB at *
            clear hcj hx hb hcell HN
            have HAT := Lib.hid (fun d => quiet_more (at_lagr _ _ k' j (unitv k' c) (wq.drewN d) (HSV.out.drewN d) (unitv_len k' c) (by omega) (by omega)))
            generalize Mt.lagr (unitv k' c) j = x at *
            have t2 : ((x : Int) != (x : Int)) = false := by simp
            go_quiet ((go_at_call 13; exact HAT.out _))
            go_wp2
            go_round
            case rel => exact ⟨c + 1, by omega, by go_num, HBW.out.trans ((below_drewN _ _).mono HBW.out.size)⟩
            case measure => simp [intOf]; omega
          · obtain rfl : c = k' := by omega
            go_wp2
            go_round
            case rel => exact ⟨j + 1, by omega, by go_num, hb⟩
            case measure => simp [intOf]; omega
      · have hlt' : ¬ (j : Int) < (k' : Int) + (m' : Int) := by omega
        go_wp2_with fail
        refine (awake3 _).mono ?_
        rintro e w2 ⟨rfl, hb2⟩
        have HB2 := Lib.hid (HB1.out.trans ((hb.out.trans (hb2.mono hb.out.size)).mono HB1.out.size))
        go_wp2
        go_ret
        exact ⟨rfl, HB2.out⟩
  · have HMN := Lib.hid (fun w => may_no k m w hM)
    have HCN := Lib.hid (fun w => code_no k m w HKW.out hM)
    clear hM HKW
    go_wp2_with fail
    refine (HCN.out _).mono ?_
    rintro e w' ⟨rfl, rfl⟩
    go_wp2_with fail
    refine (HMN.out _).mono ?_
    rintro e w' ⟨rfl, rfl⟩
    go_wp2_with fail
    refine (awake3 _).mono ?_
    rintro e w2 ⟨rfl, hb2⟩
    go_wp2
    go_ret
    exact ⟨rfl, hb2⟩

end Go.Proofs.Ytnhledngeicekaa
