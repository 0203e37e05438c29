/-
  The walk of the law KeysAgain.
-/
import Derived.Test.YtdifnipjmnbojaaKyA
import Derived.Test.YtdifnipjmnbojaaLaw103
import Derived.Deep.DeepCutAuto
namespace Go.Proofs.Ytdifnipjmnbojaa
open Go.RowKit






theorem pe0_ok : pe0.Wf ∧ pe0.key.length ≤ 10000000 ∧ pe0.frag.length ≤ 10000000 :=
  ⟨⟨by unfold I64 pe0; simp, by unfold I64 pe0; simp, by unfold I64 pe0; simp, by unfold I64 pe0; simp, by unfold I64 pe0; simp, by unfold pe0; simp, bytes_nil, bytes_nil⟩, Nat.zero_le _, Nat.zero_le _⟩

theorem ansF_ok {es : List Pe} (hw : ∀ e ∈ es, e.Wf) (hs : SmallK es) (o : Option Nat) : (ansF es o).1.Wf ∧ (ansF es o).1.key.length ≤ 10000000 ∧ (ansF es o).1.frag.length ≤ 10000000 := by
  cases o with
  | none => exact pe0_ok
  | some i =>
    show (es.getD i pe0).Wf ∧ _
    by_cases h : i < es.length
    · have := hs _ (getD_mem es i pe0 h)
      exact ⟨hw _ (getD_mem es i pe0 h), Nat.le_trans this.1 (by omega), Nat.le_trans this.2 (by omega)⟩
    · have e : es.getD i pe0 = pe0 := by rw [List.getD_eq_getElem?_getD, List.getElem?_eq_none (by omega)]; rfl
      show (es.getD i pe0).Wf ∧ (es.getD i pe0).key.length ≤ 10000000 ∧ (es.getD i pe0).frag.length ≤ 10000000
      rw [e]
      exact pe0_ok


theorem NamesOf.like {M M' : List UInt8 → Option Nat} {ss : List (List UInt8)} (h : NamesOf M ss) (e : ∀ x, (M x).isSome = (M' x).isSome) : NamesOf M' ss := ⟨h.1, h.2.1, fun x => by rw [← e]; exact h.2.2 x⟩



set_option maxRecDepth 100000 in
set_option maxHeartbeats 8000000 in
theorem keysAgain_walk (a0 : Option Addr) (len0 cap0 : Nat) (m0 : List Pe) (a1 : Int) (a2 : ByteArray) (a3 : Int) (w : World) (w0 : m0.length = len0 ∧ EnsAt w a0 cap0 m0 ∧ SmallK m0) (w3 : (Lit.int .u8 a3).wf = true) :
    Calls Try.prog 6 #[.slice a0 len0 cap0, .int .i64 a1, .string a2, .int .u8 a3] w fun e w' => e = .returned (.bool true) ∧ Below w.heap.size w w' := by
  obtain ⟨hl, he, hs⟩ := w0
  have HL := Lib.hid hl
  have HE := Lib.hid he
  have HN : Hid ((risU m0 len0).length ≤ 60) := risU_len _ _
  have HS := Lib.hid (risU_small hs len0 (by omega))
  have HWW := Lib.hid w3
  clear hl he hs w3
  go_enter Try.func6, Try.ntmps6
  go_wp2_with fail
  refine (rising_any a0 cap0 len0 m0 w HL.out HE.out).mono ?_
  intro e w1 hr
  obtain ⟨b, c, rfl, ho1, hb1⟩ := hr.at_
  have HO1 := Lib.hid ho1
  have HB1 := Lib.hid hb1
  clear hr ho1 hb1 HL HE
  generalize risU m0 len0 = es at *
  obtain ⟨l, hl⟩ : ∃ l, es.length = l := ⟨_, rfl⟩
  rw [hl] at HN ⊢
  have HL := Lib.hid hl
  have hl60 := HN.out
  clear hl
  go_wp2
  go_loopw [10] (fun i ws => ∃ k : Nat, k ≤ l ∧ i = .int .i64 k ∧ Hid (UpK es a1 k) ∧ Hid (Below w1.heap.size w1 ws)) (fun i _ => l - (intOf i).toNat)
  case atStart => exact ⟨0, Nat.zero_le _, rfl, upK_zero _ _, Below.refl _ _⟩
  case round =>
    obtain ⟨k, hk, rfl, HU, HB⟩ := hrel
    by_cases hlt : k < l
    · obtain ⟨g, off, loc, cp, rfl, hc0⟩ := HO1.out.el k (by rw [HL.out]; exact hlt)
      have HC := Lib.hid hc0
      have HMO : Hid ((es.getD k pe0).seq ≤ a1 → 1 ≤ (es.getD k pe0).num → (∀ i, i < k → (es.getD i pe0).client = (es.getD k pe0).client → (es.getD i pe0).num < (es.getD k pe0).num) → UpK es a1 (k + 1)) := HU.out.more
      clear hc0
      have hpk : ∃ p, p = es.getD k pe0 := ⟨_, rfl⟩
      obtain ⟨p, hp⟩ := hpk
      rw [← hp] at HC HMO
      clear hp HU
      have j1 : (k : Int) < (l : Int) := by omega
      have j0 : (0 : Int) ≤ (k : Int) := by omega
      go_wp2
      go_loopw [11] (fun i ws => ∃ j : Nat, j ≤ k ∧ i = .int .i64 j ∧ Hid (∀ i, i < j → (es.getD i pe0).client = p.client → (es.getD i pe0).num < p.num) ∧ Hid (Below w1.heap.size w1 ws)) (fun i _ => k - (intOf i).toNat)
      case atStart => exact ⟨0, Nat.zero_le _, rfl, fun i hi => absurd hi (Nat.not_lt_zero _), HB⟩
      case round =>
        obtain ⟨j, hj, rfl, HP, HBR⟩ := hrel
        have HBL := Lib.hid (HB1.out.trans (HBR.out.mono HB1.out.size))
        by_cases hjk : j < k
        · obtain ⟨b', off', loc', cp', hbb, hd0⟩ := HO1.out.el j (by rw [HL.out]; omega)
          simp only [Option.some.injEq, Addr.mk.injEq] at hbb
          obtain ⟨rfl, rfl, _⟩ := hbb
          have hd := hd0.below HBR.out
          have hc := HC.out.below HBR.out
          have d0 := hd.c0
          have d1 := hd.c1
          have d2 := hd.c2
          have d3 := hd.c3
          have d4 := hd.c4
          have d5 := hd.c5
          have d6 := hd.c6
          have d7 := hd.c7
          have c0 := hc.c0
          have c1 := hc.c1
          have c2 := hc.c2
          have c3 := hc.c3
          have c4 := hc.c4
          have c5 := hc.c5
          have c6 := hc.c6
          have c7 := hc.c7
          have HP0 : Hid (((es.getD j pe0).client = p.client → (es.getD j pe0).num < p.num) → ∀ i, i < j + 1 → (es.getD i pe0).client = p.client → (es.getD i pe0).num < p.num) := fun h i hi => by
            by_cases e : i = j
            · rw [e]; exact h
            · exact HP.out i (by omega)
          clear hd hd0 hc
          generalize es.getD j pe0 = r at *
          have j2 : (j : Int) < (k : Int) := by omega
          have j3 : (0 : Int) ≤ (j : Int) := by omega
          have j4 : (j : Int) < (l : Int) := by omega
          by_cases h5 : r.client = p.client
          · have d5 : (r.client == p.client) = true := by simp [h5]
            by_cases h6 : r.num < p.num
            · have d6 : decide (p.num ≤ r.num) = false := by simp; omega
              have HP1 := Lib.hid (HP0.out (fun _ => h6))
              clear HP0 HP h5 h6
              go_wp2_with fail
              go_quiet (fail)
              have HBQ := Lib.hid (HBL.out.trans ((below_drewN wr nq).mono HBL.out.size))
              go_wp2
              go_roundw
              case rel => exact ⟨j + 1, by omega, by go_num, HP1, HBR.out.trans ((below_drewN _ _).mono HBR.out.size)⟩
              case measure => simp [intOf]; omega
            · have d6 : decide (p.num ≤ r.num) = true := by simp; omega
              clear HP0 HP h5 h6
              go_wp2_with fail
              go_quiet (fail)
              have HBQ := Lib.hid (HBL.out.trans ((below_drewN wr nq).mono HBL.out.size))
              go_wp2_with fail
              refine (awake10 _).mono ?_
              rintro e w9 ⟨rfl, hb9⟩
              have HB9 := Lib.hid (HBQ.out.trans (hb9.mono HBQ.out.size))
              clear hb9
              go_wp2
              go_ret
              exact ⟨rfl, HB9.out⟩
          · have d5 : (r.client == p.client) = false := by simp [h5]
            have HP1 := Lib.hid (HP0.out (fun h => absurd h h5))
            clear HP0 HP h5
            go_wp2_with fail
            go_quiet (fail)
            have HBQ := Lib.hid (HBL.out.trans ((below_drewN wr nq).mono HBL.out.size))
            go_wp2
            go_roundw
            case rel => exact ⟨j + 1, by omega, by go_num, HP1, HBR.out.trans ((below_drewN _ _).mono HBR.out.size)⟩
            case measure => simp [intOf]; omega
        · obtain rfl : j = k := by omega
          have hc := HC.out.below HBR.out
          have c0 := hc.c0
          have c1 := hc.c1
          have c2 := hc.c2
          have c3 := hc.c3
          have c4 := hc.c4
          have c5 := hc.c5
          have c6 := hc.c6
          have c7 := hc.c7
          clear hc HC
          by_cases h1 : p.num < 1
          · have d1 : decide (p.num < 1) = true := by simp; omega
            clear HMO HP
            go_wp2_with fail
            refine (awake10 _).mono ?_
            rintro e w9 ⟨rfl, hb9⟩
            have HB9 := Lib.hid (HBL.out.trans (hb9.mono HBL.out.size))
            clear hb9
            go_wp2
            go_ret
            exact ⟨rfl, HB9.out⟩
          have d1 : decide (p.num < 1) = false := by simp; omega
          by_cases h2 : a1 < p.seq
          · have d2 : decide (a1 < p.seq) = true := by simp; omega
            clear HMO HP
            go_wp2_with fail
            refine (awake10 _).mono ?_
            rintro e w9 ⟨rfl, hb9⟩
            have HB9 := Lib.hid (HBL.out.trans (hb9.mono HBL.out.size))
            clear hb9
            go_wp2
            go_ret
            exact ⟨rfl, HB9.out⟩
          have d2 : decide (a1 < p.seq) = false := by simp; omega
          by_cases h3 : p.seq < 0
          · have d3 : decide (p.seq < 0) = true := by simp; omega
            clear HMO HP
            go_wp2_with fail
            refine (awake10 _).mono ?_
            rintro e w9 ⟨rfl, hb9⟩
            have HB9 := Lib.hid (HBL.out.trans (hb9.mono HBL.out.size))
            clear hb9
            go_wp2
            go_ret
            exact ⟨rfl, HB9.out⟩
          have d3 : decide (p.seq < 0) = false := by simp; omega
          by_cases h4 : p.op = 0
          · have d4 : (p.op == 0) = true := by simp [h4]
            clear HMO HP
            go_wp2_with fail
            refine (awake10 _).mono ?_
            rintro e w9 ⟨rfl, hb9⟩
            have HB9 := Lib.hid (HBL.out.trans (hb9.mono HBL.out.size))
            clear hb9
            go_wp2
            go_ret
            exact ⟨rfl, HB9.out⟩
          have d4 : (p.op == 0) = false := by simp [h4]
          have HU1 := Lib.hid (HMO.out (by omega) (by omega) HP.out)
          clear HMO HP h1 h2 h3 h4
          go_wp2
          go_roundw
          case rel => exact ⟨j + 1, by omega, by go_num, HU1, HBR⟩
          case measure => simp [intOf]; omega
    · obtain rfl : k = l := by omega
      have HO2 := Lib.hid (HO1.out.below HB.out)
      have HB2 := Lib.hid (HB1.out.trans (HB.out.mono HB1.out.size))
      clear HO1 HB1 HB
      have HXS : Hid (SmallK (liveU es a1 k)) := by have := liveU_small HS.out a1; rw [HL.out] at this; exact this
      have HXN : Hid ((liveU es a1 k).length ≤ 60) := by have := live_len es a1 k; show _ ≤ _; omega
      have F1 : Hid (∀ key, ansF (liveU es a1 k) (fndU (liveU es a1 k) a1 key (liveU es a1 k).length) = ansF es (curU es a1 k key)) := by have := live_ans es a1; rw [HL.out] at this; exact this
      have F2 : Hid (∀ c, (numU (liveU es a1 k) c (liveU es a1 k).length).1 = (numU es c k).1) := by have := live_num (es := es) (last := a1) (by rw [HL.out]; exact HU.out); rw [HL.out] at this; exact this
      have F3 : Hid (liveU (liveU es a1 k) a1 (liveU es a1 k).length = liveU es a1 k) := by have := live_live es a1; rw [HL.out] at this; exact this
      have F4 : Hid (∀ key, (curU (liveU es a1 k) a1 (liveU es a1 k).length key).isSome = (curU es a1 k key).isSome) := by have := live_cur es a1; rw [HL.out] at this; exact this
      have F5 := Lib.hid (cur_ans es a1 a2.data.toList k)
      have F6 := Lib.hid (ansF_ok HO2.out.wf HS.out (fndU es a1 a2.data.toList k))
      clear HU
      go_wp2_with fail
      refine (live_any b c k es a1 wr HL.out HO2.out HS.out.big (by omega)).mono ?_
      intro e w3 hr
      obtain ⟨b3, c3, rfl, ho3, hb3⟩ := hr.at_
      have HO3 := Lib.hid (HO2.out.below hb3)
      have HX3 := Lib.hid ho3
      have HB3 := Lib.hid (HB2.out.trans (hb3.mono HB2.out.size))
      clear hr ho3 hb3 HO2 HB2
      generalize liveU es a1 k = xs at *
      obtain ⟨m, hm⟩ : ∃ m, xs.length = m := ⟨_, rfl⟩
      rw [hm] at HXN F1 F2 F3 F4 ⊢
      have HM := Lib.hid hm
      have hm60 := HXN.out
      clear hm
      go_wp2_with fail
      refine (find_any b c k es a2 a1 w3 HL.out HO3.out (fun e he => (HS.out.big e he).2) (by omega)).mono ?_
      intro e w4 h1
      have h1' := h1.one
      clear h1
      generalize ansF es (fndU es a1 a2.data.toList k) = A at *
      obtain ⟨p, pb⟩ := A
      dsimp only at h1' F5 F6
      obtain ⟨pl, pc, rfl, hs4, hb4⟩ := h1'
      have hbl := below_one w4 (.cells #[.int .i64 p.seq, .int .i64 p.client, .int .i64 p.num, .int .i64 p.op, .string (strB p.key), .int .i64 p.size, .int .u32 (p.sum : Int), .slice pl p.frag.length pc] 26)
      have HO5 := Lib.hid ((HO3.out.below hb4).below hbl)
      have HX5 := Lib.hid ((HX3.out.below hb4).below hbl)
      have HB5 := Lib.hid (HB3.out.trans ((hb4.trans (hbl.mono hb4.size)).mono HB3.out.size))
      have HP5 := Lib.hid (hs4.below hbl)
      have HQ5 : Hid (Bx (w4.alloc (.cells #[.int .i64 p.seq, .int .i64 p.client, .int .i64 p.num, .int .i64 p.op, .string (strB p.key), .int .i64 p.size, .int .u32 (p.sum : Int), .slice pl p.frag.length pc] 26)) w4.heap.size 26 #[.int .i64 p.seq, .int .i64 p.client, .int .i64 p.num, .int .i64 p.op, .string (strB p.key), .int .i64 p.size, .int .u32 (p.sum : Int), .slice pl p.frag.length pc]) := bx_new8 _ _ _
      clear hs4 hb4 hbl HO3 HX3 HB3
      go_wp2_with fail
      generalize (w4.alloc (.cells #[.int .i64 p.seq, .int .i64 p.client, .int .i64 p.num, .int .i64 p.op, .string (strB p.key), .int .i64 p.size, .int .u32 (p.sum : Int), .slice pl p.frag.length pc] 26)) = w5 at *
      refine (find_any b3 c3 m xs a2 a1 w5 HM.out HX5.out (fun e he => (HXS.out.big e he).2) (by omega)).mono ?_
      intro e w6 h1
      have h1' := h1.one
      clear h1
      rw [F1.out] at h1'
      generalize ansF es (curU es a1 k a2.data.toList) = A at *
      obtain ⟨q, qb⟩ := A
      dsimp only at h1' F5
      obtain ⟨ql, qc, rfl, hs6, hb6⟩ := h1'
      have hbl := below_one w6 (.cells #[.int .i64 q.seq, .int .i64 q.client, .int .i64 q.num, .int .i64 q.op, .string (strB q.key), .int .i64 q.size, .int .u32 (q.sum : Int), .slice ql q.frag.length qc] 26)
      have HO7 := Lib.hid ((HO5.out.below hb6).below hbl)
      have HX7 := Lib.hid ((HX5.out.below hb6).below hbl)
      have HB7 := Lib.hid (HB5.out.trans ((hb6.trans (hbl.mono hb6.size)).mono HB5.out.size))
      have HP7 := Lib.hid ((HP5.out.below hb6).below hbl)
      have HR7 := Lib.hid (hs6.below hbl)
      have HQ7 := Lib.hid ((HQ5.out.chg (gs := []) (Chg.of_below hb6) (by simp)).chg (gs := []) (Chg.of_below hbl) (by simp))
      have HT7 : Hid (Bx (w6.alloc (.cells #[.int .i64 q.seq, .int .i64 q.client, .int .i64 q.num, .int .i64 q.op, .string (strB q.key), .int .i64 q.size, .int .u32 (q.sum : Int), .slice ql q.frag.length qc] 26)) w6.heap.size 26 #[.int .i64 q.seq, .int .i64 q.client, .int .i64 q.num, .int .i64 q.op, .string (strB q.key), .int .i64 q.size, .int .u32 (q.sum : Int), .slice ql q.frag.length qc]) := bx_new8 _ _ _
      clear hs6 hb6 hbl HO5 HX5 HB5 HP5 HQ5
      go_wp2_with fail
      generalize (w6.alloc (.cells #[.int .i64 q.seq, .int .i64 q.client, .int .i64 q.num, .int .i64 q.op, .string (strB q.key), .int .i64 q.size, .int .u32 (q.sum : Int), .slice ql q.frag.length qc] 26)) = w7 at *
      refine (num_any b c k es (wrap64 a3) w7 HL.out HO7.out).mono ?_
      rintro e w8 ⟨rfl, hb8⟩
      have HO8 := Lib.hid (HO7.out.below hb8)
      have HX8 := Lib.hid (HX7.out.below hb8)
      have HB8 := Lib.hid (HB7.out.trans (hb8.mono HB7.out.size))
      have HP8 := Lib.hid (HP7.out.below hb8)
      have HR8 := Lib.hid (HR7.out.below hb8)
      have HQ8 := Lib.hid (HQ7.out.chg (gs := []) (Chg.of_below hb8) (by simp))
      have HT8 := Lib.hid (HT7.out.chg (gs := []) (Chg.of_below hb8) (by simp))
      clear hb8 HO7 HX7 HB7 HP7 HR7 HQ7 HT7
      go_wp2_with fail
      refine (num_any b3 c3 m xs (wrap64 a3) w8 HM.out HX8.out).mono ?_
      rw [F2.out]
      rintro e w9 ⟨rfl, hb9⟩
      have HO9 := Lib.hid (HO8.out.below hb9)
      have HX9 := Lib.hid (HX8.out.below hb9)
      have HB9 := Lib.hid (HB8.out.trans (hb9.mono HB8.out.size))
      have HP9 := Lib.hid (HP8.out.below hb9)
      have HR9 := Lib.hid (HR8.out.below hb9)
      have HQ9 := Lib.hid (HQ8.out.chg (gs := []) (Chg.of_below hb9) (by simp))
      have HT9 := Lib.hid (HT8.out.chg (gs := []) (Chg.of_below hb9) (by simp))
      clear hb9 HO8 HX8 HB8 HP8 HR8 HQ8 HT8 F1 F2
      generalize (numU es (wrap64 a3) k).1 = n1 at *
      generalize (numU es (wrap64 a3) k).2 = n2 at *
      generalize (numU xs (wrap64 a3) m).2 = n3 at *
      have dn : (n1 == n1) = true := by simp
      have e0 := HQ9.out.cell 0 (.int .i64 p.seq) rfl
      have e1 := HQ9.out.cell 1 (.int .i64 p.client) rfl
      have e2 := HQ9.out.cell 2 (.int .i64 p.num) rfl
      have e3 := HQ9.out.cell 3 (.int .i64 p.op) rfl
      have e4 := HQ9.out.cell 4 (.string (strB p.key)) rfl
      have e5 := HQ9.out.cell 5 (.int .i64 p.size) rfl
      have e6 := HQ9.out.cell 6 (.int .u32 (p.sum : Int)) rfl
      have e7 := HQ9.out.cell 7 (.slice pl p.frag.length pc) rfl
      have y0 := HT9.out.cell 0 (.int .i64 q.seq) rfl
      have y1 := HT9.out.cell 1 (.int .i64 q.client) rfl
      have y2 := HT9.out.cell 2 (.int .i64 q.num) rfl
      have y3 := HT9.out.cell 3 (.int .i64 q.op) rfl
      have y4 := HT9.out.cell 4 (.string (strB q.key)) rfl
      have y5 := HT9.out.cell 5 (.int .i64 q.size) rfl
      have y6 := HT9.out.cell 6 (.int .u32 (q.sum : Int)) rfl
      have y7 := HT9.out.cell 7 (.slice ql q.frag.length qc) rfl
      have hf5 := F5.out
      clear F5 HQ9 HT9
      cases qb with
      | true =>
        obtain ⟨h1, h2⟩ := hf5
        obtain rfl := h2 rfl
        have h3 := h1.symm
        rw [Bool.and_eq_true, decide_eq_true_iff] at h3
        obtain ⟨rfl, h4⟩ := h3
        have d1 : (q.op == 1) = true := by simp [h4]
        clear h1 h2 h4
        go_wp2_with fail
        refine (refSame_any q q pl ql pc qc w9 F6.out.1 F6.out.1 HP9.out HR9.out F6.out.2.1 F6.out.2.2 F6.out.2.1 F6.out.2.2).mono ?_
        rw [decide_eq_true rfl]
        rintro e w10 ⟨rfl, hb10⟩
        have HO10 := Lib.hid (HO9.out.below hb10)
        have HX10 := Lib.hid (HX9.out.below hb10)
        have HB10 := Lib.hid (HB9.out.trans (hb10.mono HB9.out.size))
        clear hb10 HO9 HX9 HB9 HP9 HR9
        clear e0 e1 e2 e3 e4 e5 e6 e7
        clear y0 y1 y2 y3 y4 y5 y6 y7
        go_wp2_with fail
        refine (awake10 w10).mono ?_
        rintro e w11 ⟨rfl, hb11⟩
        have HO11 := Lib.hid (HO10.out.below hb11)
        have HX11 := Lib.hid (HX10.out.below hb11)
        have HB11 := Lib.hid (HB10.out.trans (hb11.mono HB10.out.size))
        clear hb11 HO10 HX10 HB10
        go_wp2_with fail
        refine (live_any b3 c3 m xs a1 w11 HM.out HX11.out HXS.out.big (by omega)).mono ?_
        rw [F3.out]
        intro e w12 hr
        obtain ⟨b12, c12, rfl, ho12, hb12⟩ := hr.at_
        rw [HM.out]
        have HO12 := Lib.hid (HO11.out.below hb12)
        have HX12 := Lib.hid (HX11.out.below hb12)
        have HY12 := Lib.hid ho12
        have HB12 := Lib.hid (HB11.out.trans (hb12.mono HB11.out.size))
        clear hr ho12 hb12 HO11 HX11 HB11
        go_wp2_with fail
        refine (sameAll_any b12 b3 c12 c3 m xs w12 HM.out HXN.out HY12.out HX12.out HXS.out).mono ?_
        rintro e w13 ⟨rfl, hb13⟩
        have HO13 := Lib.hid (HO12.out.below hb13)
        have HX13 := Lib.hid (HX12.out.below hb13)
        have HB13 := Lib.hid (HB12.out.trans (hb13.mono HB12.out.size))
        clear hb13 HO12 HX12 HY12 HB12
        go_wp2_with fail
        refine (names_any b3 c3 m xs a1 w13 HM.out HX13.out (fun e he => (HXS.out.big e he).1) (by omega)).mono ?_
        rintro e w14 ⟨b14, c14, ss, rfl, -, hn14, ho14, hb14⟩
        have HN14 := Lib.hid (hn14.like F4.out)
        have HO14 := Lib.hid (HO13.out.below hb14)
        have HS14 := Lib.hid (strs_own ho14 rfl)
        have HB14 := Lib.hid (HB13.out.trans (hb14.mono HB13.out.size))
        clear hn14 ho14 hb14 HO13 HX13 HB13
        obtain ⟨n4, hn4⟩ : ∃ n, ss.length = n := ⟨_, rfl⟩
        rw [hn4]
        have HN4 := Lib.hid hn4
        clear hn4
        go_wp2_with fail
        refine (names_any b c k es a1 w14 HL.out HO14.out (fun e he => (HS.out.big e he).1) (by omega)).mono ?_
        rintro e w15 ⟨b15, c15, ts, rfl, -, hn15, ho15, hb15⟩
        obtain rfl := HN14.out.one hn15
        rw [HN4.out]
        have HS15 := Lib.hid (strs_own ho15 rfl)
        have HT15 := Lib.hid (HS14.out.below hb15)
        have HB15 := Lib.hid (HB14.out.trans (hb15.mono HB14.out.size))
        clear hn15 ho15 hb15 HO14 HS14 HB14
        go_wp2_with fail
        refine (texts_any b14 b15 c14 c15 n4 n4 ss ss w15 HN4.out HN4.out HT15.out HS15.out).mono ?_
        rw [decide_eq_true rfl]
        rintro e w16 ⟨rfl, hb16⟩
        have HB16 := Lib.hid (HB15.out.trans (hb16.mono HB15.out.size))
        clear hb16
        go_wp2
        go_ret
        exact ⟨rfl, HB16.out⟩
      | false =>
        cases pb with
        | false =>
          clear hf5
          go_wp2_with fail
          refine (awake10 w9).mono ?_
          rintro e w11 ⟨rfl, hb11⟩
          have HO11 := Lib.hid (HO9.out.below hb11)
          have HX11 := Lib.hid (HX9.out.below hb11)
          have HB11 := Lib.hid (HB9.out.trans (hb11.mono HB9.out.size))
          clear hb11 HO9 HX9 HB9
          go_wp2_with fail
          refine (live_any b3 c3 m xs a1 w11 HM.out HX11.out HXS.out.big (by omega)).mono ?_
          rw [F3.out]
          intro e w12 hr
          obtain ⟨b12, c12, rfl, ho12, hb12⟩ := hr.at_
          rw [HM.out]
          have HO12 := Lib.hid (HO11.out.below hb12)
          have HX12 := Lib.hid (HX11.out.below hb12)
          have HY12 := Lib.hid ho12
          have HB12 := Lib.hid (HB11.out.trans (hb12.mono HB11.out.size))
          clear hr ho12 hb12 HO11 HX11 HB11
          go_wp2_with fail
          refine (sameAll_any b12 b3 c12 c3 m xs w12 HM.out HXN.out HY12.out HX12.out HXS.out).mono ?_
          rintro e w13 ⟨rfl, hb13⟩
          have HO13 := Lib.hid (HO12.out.below hb13)
          have HX13 := Lib.hid (HX12.out.below hb13)
          have HB13 := Lib.hid (HB12.out.trans (hb13.mono HB12.out.size))
          clear hb13 HO12 HX12 HY12 HB12
          go_wp2_with fail
          refine (names_any b3 c3 m xs a1 w13 HM.out HX13.out (fun e he => (HXS.out.big e he).1) (by omega)).mono ?_
          rintro e w14 ⟨b14, c14, ss, rfl, -, hn14, ho14, hb14⟩
          have HN14 := Lib.hid (hn14.like F4.out)
          have HO14 := Lib.hid (HO13.out.below hb14)
          have HS14 := Lib.hid (strs_own ho14 rfl)
          have HB14 := Lib.hid (HB13.out.trans (hb14.mono HB13.out.size))
          clear hn14 ho14 hb14 HO13 HX13 HB13
          obtain ⟨n4, hn4⟩ : ∃ n, ss.length = n := ⟨_, rfl⟩
          rw [hn4]
          have HN4 := Lib.hid hn4
          clear hn4
          go_wp2_with fail
          refine (names_any b c k es a1 w14 HL.out HO14.out (fun e he => (HS.out.big e he).1) (by omega)).mono ?_
          rintro e w15 ⟨b15, c15, ts, rfl, -, hn15, ho15, hb15⟩
          obtain rfl := HN14.out.one hn15
          rw [HN4.out]
          have HS15 := Lib.hid (strs_own ho15 rfl)
          have HT15 := Lib.hid (HS14.out.below hb15)
          have HB15 := Lib.hid (HB14.out.trans (hb15.mono HB14.out.size))
          clear hn15 ho15 hb15 HO14 HS14 HB14
          go_wp2_with fail
          refine (texts_any b14 b15 c14 c15 n4 n4 ss ss w15 HN4.out HN4.out HT15.out HS15.out).mono ?_
          rw [decide_eq_true rfl]
          rintro e w16 ⟨rfl, hb16⟩
          have HB16 := Lib.hid (HB15.out.trans (hb16.mono HB15.out.size))
          clear hb16
          go_wp2
          go_ret
          exact ⟨rfl, HB16.out⟩
        | true =>
          have d1 : (p.op == 1) = false := by have := hf5.1; simpa using this.symm
          clear hf5
          go_wp2_with fail
          refine (awake10 w9).mono ?_
          rintro e w11 ⟨rfl, hb11⟩
          have HO11 := Lib.hid (HO9.out.below hb11)
          have HX11 := Lib.hid (HX9.out.below hb11)
          have HB11 := Lib.hid (HB9.out.trans (hb11.mono HB9.out.size))
          clear hb11 HO9 HX9 HB9
          go_wp2_with fail
          refine (live_any b3 c3 m xs a1 w11 HM.out HX11.out HXS.out.big (by omega)).mono ?_
          rw [F3.out]
          intro e w12 hr
          obtain ⟨b12, c12, rfl, ho12, hb12⟩ := hr.at_
          rw [HM.out]
          have HO12 := Lib.hid (HO11.out.below hb12)
          have HX12 := Lib.hid (HX11.out.below hb12)
          have HY12 := Lib.hid ho12
          have HB12 := Lib.hid (HB11.out.trans (hb12.mono HB11.out.size))
          clear hr ho12 hb12 HO11 HX11 HB11
          go_wp2_with fail
          refine (sameAll_any b12 b3 c12 c3 m xs w12 HM.out HXN.out HY12.out HX12.out HXS.out).mono ?_
          rintro e w13 ⟨rfl, hb13⟩
          have HO13 := Lib.hid (HO12.out.below hb13)
          have HX13 := Lib.hid (HX12.out.below hb13)
          have HB13 := Lib.hid (HB12.out.trans (hb13.mono HB12.out.size))
          clear hb13 HO12 HX12 HY12 HB12
          go_wp2_with fail
          refine (names_any b3 c3 m xs a1 w13 HM.out HX13.out (fun e he => (HXS.out.big e he).1) (by omega)).mono ?_
          rintro e w14 ⟨b14, c14, ss, rfl, -, hn14, ho14, hb14⟩
          have HN14 := Lib.hid (hn14.like F4.out)
          have HO14 := Lib.hid (HO13.out.below hb14)
          have HS14 := Lib.hid (strs_own ho14 rfl)
          have HB14 := Lib.hid (HB13.out.trans (hb14.mono HB13.out.size))
          clear hn14 ho14 hb14 HO13 HX13 HB13
          obtain ⟨n4, hn4⟩ : ∃ n, ss.length = n := ⟨_, rfl⟩
          rw [hn4]
          have HN4 := Lib.hid hn4
          clear hn4
          go_wp2_with fail
          refine (names_any b c k es a1 w14 HL.out HO14.out (fun e he => (HS.out.big e he).1) (by omega)).mono ?_
          rintro e w15 ⟨b15, c15, ts, rfl, -, hn15, ho15, hb15⟩
          obtain rfl := HN14.out.one hn15
          rw [HN4.out]
          have HS15 := Lib.hid (strs_own ho15 rfl)
          have HT15 := Lib.hid (HS14.out.below hb15)
          have HB15 := Lib.hid (HB14.out.trans (hb15.mono HB14.out.size))
          clear hn15 ho15 hb15 HO14 HS14 HB14
          go_wp2_with fail
          refine (texts_any b14 b15 c14 c15 n4 n4 ss ss w15 HN4.out HN4.out HT15.out HS15.out).mono ?_
          rw [decide_eq_true rfl]
          rintro e w16 ⟨rfl, hb16⟩
          have HB16 := Lib.hid (HB15.out.trans (hb16.mono HB15.out.size))
          clear hb16
          go_wp2
          go_ret
          exact ⟨rfl, HB16.out⟩

end Go.Proofs.Ytdifnipjmnbojaa
