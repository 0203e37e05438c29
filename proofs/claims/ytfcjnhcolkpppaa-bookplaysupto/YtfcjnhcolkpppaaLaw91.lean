/-
  The walk of the law BookPlays, up to a round's three kinds of act (each of which is shown in a text of its own).
-/
import Derived.Test.YtfcjnhcolkpppaaPlay9
import Derived.Deep.DeepCutAuto
import Derived.Deep.CutBlock
namespace Go.Proofs.Ytfcjnhcolkpppaa
open Go.RowKit












theorem small_yes {le lm : Nat} (h : le ≤ 6 ∧ lm ≤ 40) : (decide (le ≤ 6) && decide (lm ≤ 40)) = true := by simp [h]
theorem small_no {le lm : Nat} (h : ¬(le ≤ 6 ∧ lm ≤ 40)) : (decide (le ≤ 6) && decide (lm ≤ 40)) = false := by
  rw [Bool.and_eq_false_iff]
  simp
  omega

/-- What the walk of the law says. -/
def BookWalk : Prop := ∀ (a0 : Int) (a1 : Option Addr) (len1 cap1 : Nat) (m1 : List Ab) (w : World) (_ : (Lit.int .u16 a0).wf = true) (_ : m1.length = len1 ∧ AbA w a1 cap1 m1),
    Calls Try.prog 3 #[.int .u16 a0, .slice a1 len1 cap1] w fun e w' => e = .returned (.bool true) ∧ Below w.heap.size w w'

/-- A fact that no tactic takes by itself. -/
structure Held (A : Prop) : Prop where
  out : A

/-- A statement that follows from three others: what is still to be shown of a round, by the kind of act. -/
structure Cut3 (M : Prop) where
  A : Prop
  B : Prop
  C : Prop
  go : Held A → Held B → Held C → M

set_option maxRecDepth 100000 in
set_option maxHeartbeats 20000000 in
noncomputable def bookCut : Cut3 BookWalk := by
  apply Cut3.mk
  case go =>
    intro hA hB hC a0 a1 len1 cap1 m1 w w0 w1
    obtain ⟨N, hN, rfl⟩ : ∃ N : Nat, N < 65536 ∧ a0 = (N : Int) := by
      have h : 0 ≤ a0 ∧ a0 ≤ 65535 := by simpa [Lit.wf, IntKind.min, IntKind.max, IntKind.signed, IntKind.bits] using w0
      exact ⟨a0.toNat, by omega, by omega⟩
    have hm1 : len1 ≤ maxLen := by have := w1.1; have := w1.2.le; have := w1.2.max; omega
    unfold maxLen at hm1
    have HL := Lib.hid w1.1
    have HG := Lib.hid w1.2
    clear w0 w1
    have hrm : roomOf (N : Int) = N := by unfold roomOf; rw [if_neg (by omega), if_neg (by omega)]; simp
    go_enter Try.func3, Try.ntmps3
    go_wp2_with fail
    refine (disk_new (N : Int) _).mono ?_
    rintro e w2 ⟨R, rfl, -, hd2, hb2⟩
    rw [hrm] at hd2
    have HD2 := Lib.hid hd2
    have E2 : Hid (Ext w w2) := hb2
    clear hd2 hb2
    go_wp2_with fail
    refine (bkOpen_any w.heap.size R none _ _ HD2.out rfl rfl).mono ?_
    rintro e w3 ⟨RB0, a3, ga3, cs3, rest3, F3, rfl, hv3, hk3, hm3⟩
    obtain ⟨rfl, -⟩ := vld_none _ _ _ hv3 isF_nil
    have hk3' : Bk w3 w.heap.size RB0 R a3 ga3 ⟨[], N, false, false, 0⟩ [] F3 := hk3
    have H3 : Hid (St w w3 RB0 R a3 ga3 ⟨[], N, false, false, 0⟩ [] F3) := ⟨hk3', (hm3.below E2.out fun g hg => by simp [blk] at hg; subst hg; exact HD2.out.base).1⟩
    clear hk3 hk3' hm3 hv3 HD2 E2
    have hbl := below_one w3 (.cells #[] 36)
    have HP0 : Hid (P9 w (w3.alloc (.cells #[] 36)) N RB0 R a3 ga3 ⟨[], N, false, false, 0⟩ [] F3 (some ⟨w3.heap.size, 0, none⟩) 0 [] false 0 false) :=
      ⟨H3.out.below hbl, RcA.nil (by unfold maxLen; omega), by intro y hy; simp at hy, fun g hg => by
        simp [blk] at hg
        subst hg
        exact ⟨fun e => by have := (H3.out.bk.mLt e).2; omega, by simp⟩, rfl, rfl, fun _ => ⟨rfl, rfl, rfl, fun e => by cases e⟩, ⟨[], rfl, isF_nil⟩, by simp⟩
    clear hbl H3
    go_wp2
    go_loopw [6, 8, 9, 10, 11, 12] (fun bk ls tn te dn i ws => ∃ (k n vc t RB : Nat) (va a ga : Option Addr) (s : DS) (cs : List (List Nat)) (F : List Nat) (ys : List Rl) (x d : Bool), k ≤ len1 ∧ k ≤ 30 ∧ n ≤ k ∧ t ≤ 9223372036854775807 ∧ bk = .pointer (some ⟨RB, 0, none⟩) ∧ ls = .slice va n vc ∧ tn = .bool x ∧ te = .int .i64 (t : Int) ∧ dn = .bool d ∧ i = .int .i64 (k : Int) ∧ Hid (ys.length = n) ∧ Hid (P9 w ws N RB R a ga s cs F va vc ys x t d)) (fun _ _ _ _ _ i _ => 30 - (intOf i).toNat)
    case atStart => exact ⟨0, 0, 0, 0, RB0, _, _, _, _, _, _, [], false, false, Nat.zero_le _, Nat.zero_le _, Nat.le_refl _, by omega, rfl, rfl, rfl, rfl, rfl, rfl, rfl, HP0⟩
    case round =>
      obtain ⟨k, n, vc, t, RB, va, a, ga, s, cs, F, ys, x, d, hk, hk30, hnk, ht, rfl, rfl, rfl, rfl, rfl, rfl, HN, HPr⟩ := hrel
      by_cases hlt : k < len1 ∧ k < 30
      · have j0 : (0 : Int) ≤ (k : Int) := by omega
        have j1 : (k : Int) < (len1 : Int) := by omega
        have j2 : decide ((k : Int) < (len1 : Int)) = true := by simp; omega
        have j3 : decide ((k : Int) < 30) = true := by simp; omega
        have hlt2 := hlt.2
        have hlt1 := hlt.1
        obtain ⟨b, off, e0, hc⟩ := HG.out.one k (by rw [HL.out]; exact hlt1)
        subst e0
        have hmem := getD_mem m1 k ab0 (by rw [HL.out]; exact hlt1)
        have HR0' := HG.out.ok _ hmem
        have hwf := HG.out.wf _ hmem
        have hbk := HG.out.bulk _ hmem
        generalize m1.getD k ab0 = y at *
        obtain ⟨what, na, ⟨r, ma, mc, ea, ec, lo, hi⟩⟩ := y
        dsimp only at HR0' hwf hbk hc
        have HR0 : Hid (RecAt w ma mc ea ec r) := HR0'
        have HBK := Lib.hid hbk
        obtain ⟨wf0, wf1⟩ := hwf
        obtain ⟨lm, hlm⟩ : ∃ q, r.mem.length = q := ⟨_, rfl⟩
        obtain ⟨le, hle⟩ : ∃ q, r.ents.length = q := ⟨_, rfl⟩
        rw [hlm, hle] at hc
        have HLM := Lib.hid hlm
        have HLE := Lib.hid hle
        have hc' := hc.below HPr.out.st.bel
        have c0 := hc'.c0
        have c1 := hc'.c1
        have c2 := hc'.c2
        have c3 := hc'.c3
        have c4 := hc'.c4
        have c5 := hc'.c5
        have c6 := hc'.d0
        have c7 := hc'.d1
        have hbl := below_one wr (.cells #[.int .i64 what, .int .i64 na, .int .i64 r.kind, .int .i64 r.epoch, .slice ma lm mc, .int .i64 r.pos, .int .i64 r.last, .slice ea le ec] 38)
        have HX1 := Lib.hid (bz_new wr what na r ma ea lm mc le ec)
        have HP1 := Lib.hid (HPr.out.below hbl)
        have HBO : Hid (wr.heap.size ∉ bkM RB R a ga) := fun e => by have := (HPr.out.st.bk.mLt e).2; omega
        clear hc hc' hbl hmem hbk HR0' hlm hle hlt
        go_wp2_with fail
        refine (small_any _ _ _ _ lm le _ _ _ _ _).mono ?_
        rintro e x2 ⟨rfl, hb2⟩
        have HX2 := Lib.hid (HX1.out.below hb2)
        have HP := Lib.hid (HP1.out.below hb2)
        clear c0 c1 c2 c3 c4 c5 c6 c7
        clear hb2 HX1 HP1 HPr
        by_cases hsm : le ≤ 6 ∧ lm ≤ 40
        · rw [small_yes hsm]
          have HMD : Hid (Med r) := med_of r (by rw [HLE.out]; exact hsm.1) (by rw [HLM.out]; exact hsm.2) HBK.out
          have hle6 := hsm.1
          clear hsm
          have c0 := HX2.out.c0
          have c1 := HX2.out.c1
          have c2 := HX2.out.c2
          have c3 := HX2.out.c3
          have c4 := HX2.out.c4
          have c5 := HX2.out.c5
          have c6 := HX2.out.d0
          have c7 := HX2.out.d1
          generalize wr.heap.size = B at *
          by_cases e1 : what = 1
          · rename_i q1 q2 q3 q4 q5 q6 q7 q8 q9 q10 q11 q12
            revert len1 cap1 m1 w N hN hm1 HL hrm q1 w2 R w3 RB0 a3 ga3 rest3 F3 HP0 q2 q3 wr u4 u13 u14 u15 u16 u17 u18 u19 u35 u36 u37 u38 u39 u40 u41 u42 u43 u44 u45 u46 u47 u48 u49 u50 u51 u52 u53 u54 u55 u56 u57 u58 u59 u60 u61 u62 u63 u64 u65 u66 u67 u68 u69 u70 u71 u72 u73 u74 u75 u76 u77 u78 u79 u80 u81 u82 u83 u84 u85 u86 u87 u88 u89 u90 u91 u92 u93 u94 u95 u96 u97 u98 u99 u100 u101 u102 u103 u104 u105 u106 u107 u108 u109 u110 u111 u112 u113 u114 u115 u116 u117 u118 u119 u120 u121 u122 u123 u124 u125 u126 u127 u128 u129 u130 u131 u132 u133 u134 u135 u136 u137 u138 u139 u140 u141 u142 u143 u144 u145 u146 u147 u148 u149 u150 u151 u152 u153 u154 u155 u156 u157 u158 u159 u160 u161 u162 u163 u164 u165 u166 u167 k n vc t RB va a ga s cs F ys x d hk hk30 hnk ht HN j0 j1 j2 j3 hlt2 hlt1 b off HG what na r ma mc ea ec lo hi HR0 HBK wf0 wf1 lm le HLM HLE q4 q5 q6 q7 q8 q9 q10 q11 q12 x2 HP HMD hle6 B HBO HX2 c0 c1 c2 c3 c4 c5 c6 c7 e1
            exact hA.out
          · by_cases e0 : what = 0
            · rename_i q1 q2 q3 q4 q5 q6 q7 q8 q9 q10 q11 q12
              revert len1 cap1 m1 w N hN hm1 HL hrm q1 w2 R w3 RB0 a3 ga3 rest3 F3 HP0 q2 q3 wr u4 u13 u14 u15 u16 u17 u18 u19 u35 u36 u37 u38 u39 u40 u41 u42 u43 u44 u45 u46 u47 u48 u49 u50 u51 u52 u53 u54 u55 u56 u57 u58 u59 u60 u61 u62 u63 u64 u65 u66 u67 u68 u69 u70 u71 u72 u73 u74 u75 u76 u77 u78 u79 u80 u81 u82 u83 u84 u85 u86 u87 u88 u89 u90 u91 u92 u93 u94 u95 u96 u97 u98 u99 u100 u101 u102 u103 u104 u105 u106 u107 u108 u109 u110 u111 u112 u113 u114 u115 u116 u117 u118 u119 u120 u121 u122 u123 u124 u125 u126 u127 u128 u129 u130 u131 u132 u133 u134 u135 u136 u137 u138 u139 u140 u141 u142 u143 u144 u145 u146 u147 u148 u149 u150 u151 u152 u153 u154 u155 u156 u157 u158 u159 u160 u161 u162 u163 u164 u165 u166 u167 k n vc t RB va a ga s cs F ys x d hk hk30 hnk ht HN j0 j1 j2 j3 hlt2 hlt1 b off HG what na r ma mc ea ec lo hi HR0 HBK wf0 wf1 lm le HLM HLE q4 q5 q6 q7 q8 q9 q10 q11 q12 x2 HP HMD hle6 B HBO HX2 c0 c1 c2 c3 c4 c5 c6 c7 e1 e0
              exact hB.out
            · rename_i q1 q2 q3 q4 q5 q6 q7 q8 q9 q10 q11 q12
              revert len1 cap1 m1 w N hN hm1 HL hrm q1 w2 R w3 RB0 a3 ga3 rest3 F3 HP0 q2 q3 wr u4 u13 u14 u15 u16 u17 u18 u19 u35 u36 u37 u38 u39 u40 u41 u42 u43 u44 u45 u46 u47 u48 u49 u50 u51 u52 u53 u54 u55 u56 u57 u58 u59 u60 u61 u62 u63 u64 u65 u66 u67 u68 u69 u70 u71 u72 u73 u74 u75 u76 u77 u78 u79 u80 u81 u82 u83 u84 u85 u86 u87 u88 u89 u90 u91 u92 u93 u94 u95 u96 u97 u98 u99 u100 u101 u102 u103 u104 u105 u106 u107 u108 u109 u110 u111 u112 u113 u114 u115 u116 u117 u118 u119 u120 u121 u122 u123 u124 u125 u126 u127 u128 u129 u130 u131 u132 u133 u134 u135 u136 u137 u138 u139 u140 u141 u142 u143 u144 u145 u146 u147 u148 u149 u150 u151 u152 u153 u154 u155 u156 u157 u158 u159 u160 u161 u162 u163 u164 u165 u166 u167 k n vc t RB va a ga s cs F ys x d hk hk30 hnk ht HN j0 j1 j2 j3 hlt2 hlt1 b off HG what na r ma mc ea ec lo hi HR0 HBK wf0 wf1 lm le HLM HLE q4 q5 q6 q7 q8 q9 q10 q11 q12 x2 HP HMD hle6 B HBO HX2 c0 c1 c2 c3 c4 c5 c6 c7 e1 e0
              exact hC.out
        · clear hA hB hC
          rw [small_no hsm]
          clear hsm
          go_wp2_with fail
          go_roundw
          case rel => exact ⟨k + 1, n, vc, t, RB, va, a, ga, s, cs, F, ys, x, d, by omega, by omega, by omega, ht, rfl, rfl, rfl, rfl, rfl, by go_num, HN, HP⟩
          case measure => simp [intOf]; omega
      · clear hA hB hC
        have t : decide ((k : Int) < (len1 : Int)) = false ∧ decide (k < len1) = false ∨ decide ((k : Int) < (len1 : Int)) = true ∧ decide (k < len1) = true ∧ decide ((k : Int) < 30) = false := by simp; omega
        rcases t with ⟨t1, t2⟩ | ⟨t1, t2, t3⟩
        all_goals
          go_wp2_with fail
          refine (awake9 _).mono ?_
          rintro e w5 ⟨rfl, hb5⟩
          have H5 := Lib.hid (HPr.out.below hb5).st.bel
          clear hb5
          go_wp2
          go_ret
          exact ⟨rfl, H5.out⟩

end Go.Proofs.Ytfcjnhcolkpppaa
