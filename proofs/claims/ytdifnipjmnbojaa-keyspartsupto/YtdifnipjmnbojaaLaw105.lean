/-
  The walk of the law KeysParts.
-/
import Derived.Test.YtdifnipjmnbojaaRaw
import Derived.Test.YtdifnipjmnbojaaLaw104
import Derived.Deep.DeepCutAuto
namespace Go.Proofs.Ytdifnipjmnbojaa
open Go.RowKit






/-- The number of the last of the first k entries; 0: there is none. -/
def lastS (es : List Pe) : Nat → Int
  | 0 => 0
  | k + 1 => (es.getD k pe0).seq

theorem lastS_all {es : List Pe} (h : Ris es) : ∀ e ∈ es, e.seq ≤ lastS es es.length := fun e he => by
  have hne : es ≠ [] := by intro h; rw [h] at he; cases he
  obtain ⟨k, hk⟩ : ∃ k, es.length = k + 1 := ⟨es.length - 1, by have := List.length_pos_iff.mpr hne; omega⟩
  rw [hk]
  show e.seq ≤ (es.getD k pe0).seq
  have := last_getD es hne e he h
  rw [hk] at this
  rcases this with h1 | h1
  · rw [h1]; exact Int.le_refl _
  · exact Int.le_of_lt h1

theorem Eo.other {w w' : World} {base B : Nat} {v : Value} {xs : List El} (h : Eo w base v xs) (hb : Chg [B] w w') (hno : NoU8 w B) (hB : B < base) : Eo w' base v xs :=
  ⟨hb.owns h.own (fun g hg => by have := (World.ownsRow.lt h.own g hg).1; simp; omega), fun x hx => (h.seen x hx).other hb hno, fun x hx hf b o e => by obtain ⟨h1, h2⟩ := h.off x hx hf b o e; exact ⟨Nat.lt_of_lt_of_le h1 hb.size, h2⟩, h.wf⟩

theorem set1 {w : World} {B : Nat} {t : TypeId} {C C' : Array Value} (h : Bx w B t C) (k : Nat) (v : Value) (hC : C.setIfInBounds k v = C') : Bx (w.setCell ⟨B, k, none⟩ v) B t C' ∧ Chg [B] w (w.setCell ⟨B, k, none⟩ v) :=
  ⟨bx_set8 h k v hC, chg_set w B k v⟩

structure QOk (p : Pe) (last : Int) (q : Pe) : Prop where
  seq : q.seq = last + 1
  op : q.op = 1 ∨ q.op = 2
  wf : q.Wf
  key : q.key = p.key
  kl : q.key.length ≤ 1048576
  fl : q.frag.length ≤ 1048576





theorem lastU_congr {f g : Pe → Bool} {es es' : List Pe} : ∀ {k : Nat}, (∀ i, i < k → f (es.getD i pe0) = g (es'.getD i pe0)) → lastU f es k = lastU g es' k
  | 0, _ => rfl
  | k + 1, h => by
    have ih := lastU_congr (k := k) (fun i hi => h i (by omega))
    have h0 := h k (Nat.lt_succ_self k)
    cases hp : g (es'.getD k pe0) with
    | true => rw [lastU_yes hp, lastU_yes (by rw [h0, hp])]
    | false => rw [lastU_no hp, lastU_no (by rw [h0, hp]), ih]

theorem app_lt {es : List Pe} {q : Pe} {i : Nat} (h : i < es.length) : (es ++ [q]).getD i pe0 = es.getD i pe0 := by rw [List.getD_eq_getElem?_getD, List.getElem?_append_left h, List.getD_eq_getElem?_getD]
theorem app_last (es : List Pe) (q : Pe) : (es ++ [q]).getD es.length pe0 = q := by rw [List.getD_eq_getElem?_getD, List.getElem?_append_right (Nat.le_refl _)]; simp

theorem parts_ans {es : List Pe} {q : Pe} {last last' : Int} {key : List UInt8} (h : ∀ e ∈ es, hit key last' e = hit key last e) (hq : hit key last' q = false) : ansF (es ++ [q]) (fndU (es ++ [q]) last' key (es.length + 1)) = ansF es (fndU es last key es.length) := by
  unfold fndU
  rw [lastU_no (by rw [app_last]; exact hq), lastU_congr (f := hit key last') (g := hit key last) (es' := es) (fun i hi => by rw [app_lt hi]; exact h _ (getD_mem es i pe0 hi))]
  cases hl : lastU (hit key last) es es.length with
  | none => rfl
  | some i =>
    show ((es ++ [q]).getD i pe0, true) = (es.getD i pe0, true)
    rw [app_lt (lastU_some hl).1]

theorem parts_own (es : List Pe) (q : Pe) (last : Int) (hs : q.seq ≤ last) (ho : q.op = 1 ∨ q.op = 2) : ansF (es ++ [q]) (fndU (es ++ [q]) last (kb q) (es.length + 1)) = (q, true) := by
  unfold fndU
  rw [lastU_yes (by rw [app_last]; exact hit_iff.2 ⟨rfl, hs, ho⟩)]
  show ((es ++ [q]).getD es.length pe0, true) = _
  rw [app_last]

theorem hit_more {key : List UInt8} {last : Int} {e : Pe} (h : e.seq ≤ last) : hit key (last + 1) e = hit key last e := by
  unfold hit
  rw [decide_eq_true h, decide_eq_true (show e.seq ≤ last + 1 by omega)]

theorem key_same' (p : Pe) (key : ByteArray) : (key.toList == (strB p.key).toList) = decide (kb p = key.data.toList) := by
  rw [← key_same]
  exact BEq.comm




set_option maxRecDepth 100000 in
set_option maxHeartbeats 8000000 in
theorem keysParts_walk (a0 : Option Addr) (len0 cap0 : Nat) (m0 : List Pe) (p : Pe) (loc : Option Addr) (cp : Nat) (a2 : ByteArray) (w : World) (w0 : m0.length = len0 ∧ EnsAt w a0 cap0 m0 ∧ SmallK m0) (w1 : SeenAt w loc cp p.frag ∧ p.Wf ∧ p.key.length ≤ 1048576 ∧ p.frag.length ≤ 1048576) :
    Calls Try.prog 7 #[.slice a0 len0 cap0, .agg #[.int .i64 p.seq, .int .i64 p.client, .int .i64 p.num, .int .i64 p.op, .string (strB p.key), .int .i64 p.size, .int .u32 (p.sum : Int), .slice loc p.frag.length cp], .string a2] w fun e w' => e = .returned (.bool true) ∧ Below w.heap.size w w' := by
  obtain ⟨hl, he, hs⟩ := w0
  obtain ⟨p1, p2, p3, p4⟩ := w1
  have hbl := below_one w (.cells #[.int .i64 p.seq, .int .i64 p.client, .int .i64 p.num, .int .i64 p.op, .string (strB p.key), .int .i64 p.size, .int .u32 (p.sum : Int), .slice loc p.frag.length cp] 26)
  have HL := Lib.hid hl
  have HE := Lib.hid (he.below hbl)
  have HN : Hid ((risU m0 len0).length ≤ 60) := risU_len _ _
  have HR := Lib.hid (risU_ris m0 len0)
  have HS := Lib.hid (risU_small hs len0 (by omega))
  have HP := Lib.hid (p1.below hbl)
  have HPW : Hid (p.Wf ∧ p.key.length ≤ 1048576 ∧ p.frag.length ≤ 1048576) := ⟨p2, p3, p4⟩
  have HBW := Lib.hid hbl
  have HX : Hid (Bx (w.alloc (.cells #[.int .i64 p.seq, .int .i64 p.client, .int .i64 p.num, .int .i64 p.op, .string (strB p.key), .int .i64 p.size, .int .u32 (p.sum : Int), .slice loc p.frag.length cp] 26)) w.heap.size 26 #[.int .i64 p.seq, .int .i64 p.client, .int .i64 p.num, .int .i64 p.op, .string (strB p.key), .int .i64 p.size, .int .u32 (p.sum : Int), .slice loc p.frag.length cp]) := bx_new8 _ _ _
  have HWB : Hid (w.heap.size < (w.alloc (.cells #[.int .i64 p.seq, .int .i64 p.client, .int .i64 p.num, .int .i64 p.op, .string (strB p.key), .int .i64 p.size, .int .u32 (p.sum : Int), .slice loc p.frag.length cp] 26)).heap.size) := by show _ < _; simp
  clear hl he hs p1 p2 p3 p4 hbl
  go_enter Try.func7, Try.ntmps7
  go_wp2_with fail
  generalize (w.alloc (.cells #[.int .i64 p.seq, .int .i64 p.client, .int .i64 p.num, .int .i64 p.op, .string (strB p.key), .int .i64 p.size, .int .u32 (p.sum : Int), .slice loc p.frag.length cp] 26)) = wb at *
  refine (rising_any a0 cap0 len0 m0 wb HL.out HE.out).mono ?_
  rintro e w1 ⟨b, c, xs, rfl, hxs, heo, hb1⟩
  have HXS := Lib.hid hxs
  have HO1 := Lib.hid heo
  have HB1 := Lib.hid (HBW.out.trans (hb1.mono HBW.out.size))
  have HX1 := Lib.hid (HX.out.chg (gs := []) (Chg.of_below hb1) (by simp))
  have HP1 := Lib.hid (HP.out.below hb1)
  clear hxs heo hb1 HL HE HBW HX HP
  generalize risU m0 len0 = es at *
  obtain ⟨l, hl⟩ : ∃ l, es.length = l := ⟨_, rfl⟩
  rw [hl] at HN HO1 ⊢
  have HL := Lib.hid hl
  have HAL : Hid (∀ e ∈ es, e.seq ≤ lastS es l) := by rw [← hl]; exact lastS_all HR.out
  have hl60 := HN.out
  have HE1 := Lib.hid HO1.out.at_.2
  rw [HXS.out] at HE1
  clear hl
  go_wp2
  go_loopw [8, 9] (fun v i ws => ∃ k : Nat, k ≤ l ∧ i = .int .i64 k ∧ v = .int .i64 (lastS es k) ∧ Hid (Below w1.heap.size w1 ws)) (fun _ i _ => l - (intOf i).toNat)
  case atStart => exact ⟨0, Nat.zero_le _, rfl, rfl, Below.refl _ _⟩
  case round =>
    obtain ⟨k, hk, rfl, rfl, HB⟩ := hrel
    by_cases hlt : k < l
    · obtain ⟨g, off, loc', cp', rfl, hc0⟩ := HE1.out.el k (by rw [HL.out]; exact hlt)
      have hc := (hc0.below HB.out).c0
      have j1 : (k : Int) < (l : Int) := by omega
      have j0 : (0 : Int) ≤ (k : Int) := by omega
      clear hc0
      go_wp2
      go_roundw
      case rel => exact ⟨k + 1, by omega, by go_num, rfl, HB⟩
      case measure => simp [intOf]; omega
    · obtain rfl : k = l := by omega
      have HO2 := Lib.hid (HO1.out.below HB.out)
      have HB2 := Lib.hid (HB1.out.trans (HB.out.mono HB1.out.size))
      have HX2 := Lib.hid (HX1.out.chg (gs := []) (Chg.of_below HB.out) (by simp))
      have HP2 := Lib.hid (HP1.out.below HB.out)
      clear HO1 HB1 HX1 HP1 HB HE1
      generalize lastS es k = last at *
      by_cases h1 : last < 0
      · have d1 : decide (last < 0) = true := by simp; omega
        go_wp2_with fail
        refine (awake10 _).mono ?_
        rintro e w9 ⟨rfl, hb9⟩
        have HB9 := Lib.hid (HB2.out.trans (hb9.mono HB2.out.size))
        clear hb9
        go_wp2
        go_ret
        exact ⟨rfl, HB9.out⟩
      have d1 : decide (last < 0) = false := by simp; omega
      by_cases h2 : 1099511627776 < last
      · have d2 : decide (1099511627776 < last) = true := by simp; omega
        go_wp2_with fail
        refine (awake10 _).mono ?_
        rintro e w9 ⟨rfl, hb9⟩
        have HB9 := Lib.hid (HB2.out.trans (hb9.mono HB2.out.size))
        clear hb9
        go_wp2
        go_ret
        exact ⟨rfl, HB9.out⟩
      have d2 : decide (1099511627776 < last) = false := by simp; omega
      have e0 := HX2.out.cell 0 (.int .i64 p.seq) rfl
      have e1 := HX2.out.cell 1 (.int .i64 p.client) rfl
      have e2 := HX2.out.cell 2 (.int .i64 p.num) rfl
      have e3 := HX2.out.cell 3 (.int .i64 p.op) rfl
      have e4 := HX2.out.cell 4 (.string (strB p.key)) rfl
      have e5 := HX2.out.cell 5 (.int .i64 p.size) rfl
      have e6 := HX2.out.cell 6 (.int .u32 (p.sum : Int)) rfl
      have e7 := HX2.out.cell 7 (.slice loc p.frag.length cp) rfl
      have g0 := HX2.out.free 0
      have g1 := HX2.out.free 1
      have g2 := HX2.out.free 2
      have g3 := HX2.out.free 3
      have g4 := HX2.out.free 4
      have g5 := HX2.out.free 5
      have g6 := HX2.out.free 6
      have g7 := HX2.out.free 7
      go_upto_region 10 with fail
      have hs1 := set1 HX2.out 0 (.int .i64 (last + 1)) (C' := #[.int .i64 (last + 1), .int .i64 p.client, .int .i64 p.num, .int .i64 p.op, .string (strB p.key), .int .i64 p.size, .int .u32 (p.sum : Int), .slice loc p.frag.length cp]) (by simp)
      have hno := HX2.out.no rfl
      have HX3 := Lib.hid hs1.1
      have HO3 := Lib.hid (HO2.out.other hs1.2 hno HWB.out)
      have HP3 := Lib.hid (HP2.out.other hs1.2 hno)
      have HB3 := Lib.hid (hs1.2.below HB2.out HB2.out.size (by simp))
      clear hs1 hno HX2 HO2 HP2 HB2
      clear e0 e1 e2 e3 e4 e5 e6 e7
      clear g0 g1 g2 g3 g4 g5 g6 g7
      generalize (wr.setCell ⟨w.heap.size, 0, none⟩ (.int .i64 (last + 1))) = x1 at *
      have e3 := HX3.out.cell 3 (.int .i64 p.op) rfl
      generalize (Value.agg #[.int .i64 p.seq, .int .i64 p.client, .int .i64 p.num, .int .i64 p.op, .string (strB p.key), .int .i64 p.size, .int .u32 (p.sum : Int), .slice loc p.frag.length cp]) = ag
      go_cut [49] (fun s wx => ∃ bb : Bool, s = .bool bb ∧ Hid (bb = false → p.op = 1 ∨ p.op = 2) ∧ wx = x1)
      case first =>
        by_cases h3 : p.op = 1
        · have d3 : (p.op != 1) = false := by simp [h3]
          have HQ : Hid (p.op = 1 ∨ p.op = 2) := .inl h3
          clear h3
          go_wp2_with fail
          go_meet
          exact ⟨false, rfl, (fun _ => HQ.out), rfl⟩
        · have d3 : (p.op != 1) = true := by simp [h3]
          by_cases h4 : p.op = 2
          · have d4 : (p.op != 2) = false := by simp [h4]
            have HQ : Hid (p.op = 1 ∨ p.op = 2) := .inr h4
            clear h3 h4
            go_wp2_with fail
            go_meet
            exact ⟨false, rfl, (fun _ => HQ.out), rfl⟩
          · have d4 : (p.op != 2) = true := by simp [h4]
            clear h3 h4
            go_wp2_with fail
            go_meet
            exact ⟨true, rfl, (fun h => by cases h), rfl⟩
      case rest =>
      obtain ⟨bb, rfl, HBB, hw⟩ := hcut
      obtain rfl := hw.symm
      clear hw e3
      go_upto_if 49 with fail
      go_cut [50] (fun s wx => ∃ q : Pe, Hid (QOk p last q) ∧ Hid (Bx wx w.heap.size 26 #[.int .i64 q.seq, .int .i64 q.client, .int .i64 q.num, .int .i64 q.op, .string (strB q.key), .int .i64 q.size, .int .u32 (q.sum : Int), .slice loc q.frag.length cp]) ∧ Hid (Eo wx wb.heap.size (.slice b k c) xs) ∧ Hid (SeenAt wx loc cp q.frag) ∧ Hid (Below w.heap.size w wx))
      case first =>
        cases bb with
        | true =>
          have g3 := HX3.out.free 3
          have e3 := HX3.out.cell 3 (.int .i64 p.op) rfl
          have hs1 := set1 HX3.out 3 (.int .i64 1) (C' := #[.int .i64 (last + 1), .int .i64 p.client, .int .i64 p.num, .int .i64 1, .string (strB p.key), .int .i64 p.size, .int .u32 (p.sum : Int), .slice loc p.frag.length cp]) (by simp)
          have hno := HX3.out.no rfl
          have HX4 := Lib.hid hs1.1
          have HO4 := Lib.hid (HO3.out.other hs1.2 hno HWB.out)
          have HP4 := Lib.hid (HP3.out.other hs1.2 hno)
          have HB4 := Lib.hid (hs1.2.below HB3.out HB3.out.size (by simp))
          have HQF : Hid (QOk p last ⟨last + 1, p.client, p.num, 1, p.key, p.size, p.sum, p.frag⟩) := ⟨rfl, .inl rfl, ⟨by show I64 (last + 1); unfold I64; omega, HPW.out.1.client, HPW.out.1.num, by show I64 1; unfold I64; omega, HPW.out.1.size, HPW.out.1.sum, HPW.out.1.key, HPW.out.1.frag⟩, rfl, HPW.out.2.1, HPW.out.2.2⟩
          clear hs1 hno HX3 HO3 HP3 HB3 HBB
          go_wp2_with fail
          go_meet
          exact ⟨⟨last + 1, p.client, p.num, 1, p.key, p.size, p.sum, p.frag⟩, HQF, HX4, HO4, HP4, HB4⟩
        | false =>
          have HQF : Hid (QOk p last ⟨last + 1, p.client, p.num, p.op, p.key, p.size, p.sum, p.frag⟩) := ⟨rfl, HBB.out rfl, ⟨by show I64 (last + 1); unfold I64; omega, HPW.out.1.client, HPW.out.1.num, HPW.out.1.op, HPW.out.1.size, HPW.out.1.sum, HPW.out.1.key, HPW.out.1.frag⟩, rfl, HPW.out.2.1, HPW.out.2.2⟩
          clear HBB
          go_wp2_with fail
          go_meet
          exact ⟨⟨last + 1, p.client, p.num, p.op, p.key, p.size, p.sum, p.frag⟩, HQF, HX3, HO3, HP3, HB3⟩
      case rest =>
      obtain ⟨q, HQF, HX5, HO5, HP5, HB5⟩ := hcut
      have HQW : Hid q.Wf := HQF.out.wf
      go_upto_region 12 with fail
      go_cut [10] (fun s wx => ∃ (vw : Option Addr) (vwc : Nat), s = .slice vw (k + 1) vwc ∧ Hid (EnsAt wx vw vwc (es ++ [q])) ∧ Hid (Ext wc wx))
      case first =>
        rename_i JJ KK hJJ hKK
        refine wp_region_S2 (Ext wc.drew) (by kernel_rfl) ?_
        have hSw := Ext.refl wc.drew
        have EW : Hid (Ext wc wc.drew) := Below.drew (Below.refl _ wc)
        have HOW := HO5.out.below EW.out
        have HXL : Hid (xs.length = k) := HOW.at_.1
        have HY0 := Lib.hid (row_cells (e := 26) (size := 8) (xs := evals xs) (by have := HOW.own; rw [HXL.out] at this; exact this) (by rw [evals_len, HXL.out]))
        have HSX := Lib.hid HOW.seen
        have HXW := Lib.hid HOW.wf
        have HSQ := Lib.hid (HP5.out.below EW.out)
        have HBX := Lib.hid (HX5.out.chg (gs := []) (Chg.of_below EW.out) (by simp))
        clear HOW
        generalize wc.drew = W at *
        have HW0' : Hid (∃ L, W.heap.size = L) := ⟨_, rfl⟩
        obtain ⟨L0, hL0⟩ := HW0'.out
        have HW0 := Lib.hid hL0
        have HWB0 := EW
        have EW0 := Lib.hid (Ext.refl W)
        clear EW hL0 HW0'
        refine wpAnyH_tkS2 (i := 1) 52 (v := ?_) rfl rfl (by kernel_rfl) (by kernel_rfl) (by kernel_rfl) (by rfl) hSw (fun wq hwq => ?_) ?_
        rotate_left
        · (have hx := True.intro; go_simp <;> with_reducible rfl)
        simp only [List.setIfInBounds_toArray, List.set_cons_zero, List.set_cons_succ]
        refine wpAnyH_tkS2 (i := 3) 54 (v := ?_) rfl rfl (by kernel_rfl) (by kernel_rfl) (by kernel_rfl) (by rfl) hSw (fun wq hwq => ?_) ?_
        rotate_left
        · (have hx := (HBX.out).chg (gs := []) (Chg.of_below hwq) (by simp); have y0 := hx.cell 0 (.int .i64 q.seq) rfl; have y1 := hx.cell 1 (.int .i64 q.client) rfl; have y2 := hx.cell 2 (.int .i64 q.num) rfl; have y3 := hx.cell 3 (.int .i64 q.op) rfl; have y4 := hx.cell 4 (.string (strB q.key)) rfl; have y5 := hx.cell 5 (.int .i64 q.size) rfl; have y6 := hx.cell 6 (.int .u32 (q.sum : Int)) rfl; have y7 := hx.cell 7 (.slice loc q.frag.length cp) rfl; go_simp <;> with_reducible rfl)
        simp only [List.setIfInBounds_toArray, List.set_cons_zero, List.set_cons_succ]
        refine wpAnyH_twoS2 (i := 0) (j := 4) rfl rfl (by kernel_rfl) (by rfl) (by rfl) (fun K hK => ?_) (fun K hK => ?_)
        · go_simp
          rw [HW0.out]
          have HR1 := Lib.hid (row_lit W L0 L0 26 8 HW0.out (by have := HW0.out; omega))
          have hb := below_one W (.cells #[] 26)
          have EW1 := Lib.hid (Ext.trans EW0.out hb)
          refine hK.out _ _ (Ext W) (fun _ h => h) (EW1.out) ?_
          clear hK K
          clear hb
          have hSw := EW1.out
          have HLT : Hid (L0 < (W.alloc (.cells #[] 26)).heap.size) := by show _ < _; rw [← HW0.out]; simp
          generalize (W.alloc (.cells #[] 26)) = W1 at *
          refine wpAnyH_twoS2 (i := 2) (j := 4) rfl rfl (by kernel_rfl) (by rfl) (by rfl) (fun K hK => ?_) (fun K hK => ?_)
          · skip
            refine wp_appRaw (.tmp 51) (.tmp 52) 22 26 rfl Try.underlying22 _ 8 88 infoE rfl (by omega) (by omega) L0 (some ⟨L0, 0, none⟩) 0 0 [] rfl HR1.out b k c (evals xs) rfl (by rw [evals_len, HXL.out]) (fun j u hj => by obtain ⟨b', off, e, hc⟩ := HY0.out j u hj; exact ⟨b', off, e, cell_later EW1.out hc⟩) (evals_one xs) (by omega) (by have := EW1.out.size; have := HW0.out; omega) ?_
            intro va2 vc2 w2 ho hg
            rw [List.nil_append] at ho
            rw [Nat.zero_add] at ho ⊢
            have HO2 := Lib.hid ho
            have HG2 := Lib.hid hg
            have EW2 : Hid (Ext W w2) := EW1.out.grown hg EW1.out.size (fun j hj => by have h1 := (row_lt HR1.out j hj).1; have h2 := HW0.out; omega)
            clear ho hg
            go_simp
            refine hK.out _ _ (Ext W) (fun _ h => h) (EW2.out) ?_
            clear hK K
            have hSw := EW2.out
            refine wpAnyH_oneS2 (i := 4) rfl (by kernel_rfl) (by rfl) (fun K hK => ?_)
            go_simp
            have HLI := Lib.hid (lit8 w2 q loc cp w2.heap.size rfl)
            have HO3 := Lib.hid ((Chg.of_below (gs := []) (below_one w2 (.cells #[.int .i64 q.seq, .int .i64 q.client, .int .i64 q.num, .int .i64 q.op, .string (strB q.key), .int .i64 q.size, .int .u32 (q.sum : Int), .slice loc q.frag.length cp] 26))).owns HO2.out (by simp))
            have hb := below_one w2 (.cells #[.int .i64 q.seq, .int .i64 q.client, .int .i64 q.num, .int .i64 q.op, .string (strB q.key), .int .i64 q.size, .int .u32 (q.sum : Int), .slice loc q.frag.length cp] 26)
            have EW3 := Lib.hid (Ext.trans EW2.out hb)
            refine hK.out _ _ (Ext W) (fun _ h => h) (EW3.out) ?_
            clear hK K
            clear hb
            have hSw := EW3.out
            refine wpAnyH_oneS2 (i := 5) rfl (by kernel_rfl) (by rfl) (fun K hK => ?_)
            refine wp_appRaw (.tmp 53) (.tmp 55) 22 26 rfl Try.underlying22 _ 8 88 infoE rfl (by omega) (by omega) L0 va2 vc2 k (evals xs) rfl HO3.out (some ⟨w2.heap.size, 0, none⟩) 1 1 (ecells ⟨q, loc, cp⟩) rfl rfl (fun j u hj => ⟨_, 0, rfl, by rw [Nat.zero_add]; exact HLI.out j u hj⟩) (by intro u hu; simp [ecells] at hu; rcases hu with rfl | rfl | rfl | rfl | rfl | rfl | rfl | rfl <;> rfl) (by omega) (by have := EW3.out.size; have := HW0.out; omega) ?_
            intro va4 vc4 w4 ho hg
            have EW4 : Hid (Ext W w4) := EW3.out.grown hg EW3.out.size (fun j hj => by have h1 := (row_lt HO3.out j hj).1; have h2 := HW0.out; omega)
            have HQ4 : Hid (EnsAt w4 va4 vc4 (es ++ [q])) := fin_row (y := ⟨q, loc, cp⟩) ho HXL.out HXS.out (fun x hx => (HSX.out x hx).below EW4.out) HXW.out (HSQ.out.below EW4.out) HQW.out
            clear ho hg
            go_simp
            refine hK.out _ _ (Ext W) (fun _ h => h) (EW4.out) ?_
            clear hK K
            have hSw := EW4.out
            refine wpAnyH_tkS2 (i := 6) 10 (v := ?_) rfl rfl (by kernel_rfl) (by kernel_rfl) (by kernel_rfl) (by rfl) hSw (fun wq hwq => ?_) ?_
            rotate_left
            · (have hx := True.intro; go_simp <;> with_reducible rfl)
            simp only [List.setIfInBounds_toArray, List.set_cons_zero, List.set_cons_succ]
            refine wpAnyH_done (by kernel_rfl) ?_ _
            refine NoPanic.normal ?_
            have EXF := Lib.hid (Ext.trans HWB0.out EW4.out)
            refine hKK _ _ (Met.intro (hJJ _ _ ?_))
            (repeat apply Exists.intro)
            exact ⟨⟨va4, vc4, rfl, HQ4, EXF⟩, rfl⟩
          · go_simp
            have HLI := Lib.hid (lit8 W1 q loc cp W1.heap.size rfl)
            have HR2 := Lib.hid ((Chg.of_below (gs := []) (below_one W1 (.cells #[.int .i64 q.seq, .int .i64 q.client, .int .i64 q.num, .int .i64 q.op, .string (strB q.key), .int .i64 q.size, .int .u32 (q.sum : Int), .slice loc q.frag.length cp] 26))).owns HR1.out (by simp))
            have hb := below_one W1 (.cells #[.int .i64 q.seq, .int .i64 q.client, .int .i64 q.num, .int .i64 q.op, .string (strB q.key), .int .i64 q.size, .int .u32 (q.sum : Int), .slice loc q.frag.length cp] 26)
            have EW2 := Lib.hid (Ext.trans EW1.out hb)
            refine hK.out _ _ (Ext W) (fun _ h => h) (EW2.out) ?_
            clear hK K
            clear hb
            have hSw := EW2.out
            generalize (W1.alloc (.cells #[.int .i64 q.seq, .int .i64 q.client, .int .i64 q.num, .int .i64 q.op, .string (strB q.key), .int .i64 q.size, .int .u32 (q.sum : Int), .slice loc q.frag.length cp] 26)) = W2 at *
            refine wpAnyH_oneS2 (i := 2) rfl (by kernel_rfl) (by rfl) (fun K hK => ?_)
            refine wp_appRaw (.tmp 51) (.tmp 52) 22 26 rfl Try.underlying22 _ 8 88 infoE rfl (by omega) (by omega) L0 (some ⟨L0, 0, none⟩) 0 0 [] rfl HR2.out b k c (evals xs) rfl (by rw [evals_len, HXL.out]) (fun j u hj => by obtain ⟨b', off, e, hc⟩ := HY0.out j u hj; exact ⟨b', off, e, cell_later EW2.out hc⟩) (evals_one xs) (by omega) (by have := EW2.out.size; have := HW0.out; omega) ?_
            intro va3 vc3 w3 ho hg
            rw [List.nil_append] at ho
            rw [Nat.zero_add] at ho ⊢
            have HO3 := Lib.hid ho
            have HG3 := Lib.hid hg
            have EW3 : Hid (Ext W w3) := EW2.out.grown hg EW2.out.size (fun j hj => by have h1 := (row_lt HR2.out j hj).1; have h2 := HW0.out; omega)
            clear ho hg
            go_simp
            refine hK.out _ _ (Ext W) (fun _ h => h) (EW3.out) ?_
            clear hK K
            have hSw := EW3.out
            have HLJ : Hid (∀ j u, (ecells ⟨q, loc, cp⟩)[j]? = some u → w3.cell? ⟨W1.heap.size, j, none⟩ = some u) := fun j u hj => (Chg.of_grown HG3.out).cell (HLI.out j u hj) (by have := HLT.out; simp; omega)
            refine wpAnyH_oneS2 (i := 5) rfl (by kernel_rfl) (by rfl) (fun K hK => ?_)
            refine wp_appRaw (.tmp 53) (.tmp 55) 22 26 rfl Try.underlying22 _ 8 88 infoE rfl (by omega) (by omega) L0 va3 vc3 k (evals xs) rfl HO3.out (some ⟨W1.heap.size, 0, none⟩) 1 1 (ecells ⟨q, loc, cp⟩) rfl rfl (fun j u hj => ⟨_, 0, rfl, by rw [Nat.zero_add]; exact HLJ.out j u hj⟩) (by intro u hu; simp [ecells] at hu; rcases hu with rfl | rfl | rfl | rfl | rfl | rfl | rfl | rfl <;> rfl) (by omega) (by have := EW3.out.size; have := HW0.out; omega) ?_
            intro va4 vc4 w4 ho hg
            have EW4 : Hid (Ext W w4) := EW3.out.grown hg EW3.out.size (fun j hj => by have h1 := (row_lt HO3.out j hj).1; have h2 := HW0.out; omega)
            have HQ4 : Hid (EnsAt w4 va4 vc4 (es ++ [q])) := fin_row (y := ⟨q, loc, cp⟩) ho HXL.out HXS.out (fun x hx => (HSX.out x hx).below EW4.out) HXW.out (HSQ.out.below EW4.out) HQW.out
            clear ho hg
            go_simp
            refine hK.out _ _ (Ext W) (fun _ h => h) (EW4.out) ?_
            clear hK K
            have hSw := EW4.out
            refine wpAnyH_tkS2 (i := 6) 10 (v := ?_) rfl rfl (by kernel_rfl) (by kernel_rfl) (by kernel_rfl) (by rfl) hSw (fun wq hwq => ?_) ?_
            rotate_left
            · (have hx := True.intro; go_simp <;> with_reducible rfl)
            simp only [List.setIfInBounds_toArray, List.set_cons_zero, List.set_cons_succ]
            refine wpAnyH_done (by kernel_rfl) ?_ _
            refine NoPanic.normal ?_
            have EXF := Lib.hid (Ext.trans HWB0.out EW4.out)
            refine hKK _ _ (Met.intro (hJJ _ _ ?_))
            (repeat apply Exists.intro)
            exact ⟨⟨va4, vc4, rfl, HQ4, EXF⟩, rfl⟩
        · go_simp
          rw [HW0.out]
          have HLI := Lib.hid (lit8 W q loc cp L0 HW0.out)
          have hb := below_one W (.cells #[.int .i64 q.seq, .int .i64 q.client, .int .i64 q.num, .int .i64 q.op, .string (strB q.key), .int .i64 q.size, .int .u32 (q.sum : Int), .slice loc q.frag.length cp] 26)
          have EW1 := Lib.hid (Ext.trans EW0.out hb)
          refine hK.out _ _ (Ext W) (fun _ h => h) (EW1.out) ?_
          clear hK K
          clear hb
          have hSw := EW1.out
          have HLT : Hid (L0 < (W.alloc (.cells #[.int .i64 q.seq, .int .i64 q.client, .int .i64 q.num, .int .i64 q.op, .string (strB q.key), .int .i64 q.size, .int .u32 (q.sum : Int), .slice loc q.frag.length cp] 26)).heap.size) := by show _ < _; rw [← HW0.out]; simp
          generalize (W.alloc (.cells #[.int .i64 q.seq, .int .i64 q.client, .int .i64 q.num, .int .i64 q.op, .string (strB q.key), .int .i64 q.size, .int .u32 (q.sum : Int), .slice loc q.frag.length cp] 26)) = W1 at *
          refine wpAnyH_oneS2 (i := 0) rfl (by kernel_rfl) (by rfl) (fun K hK => ?_)
          go_simp
          have HR2 := Lib.hid (row_lit W1 L0 W1.heap.size 26 8 rfl (by have := HLT.out; omega))
          have HLK : Hid (∀ j u, (ecells ⟨q, loc, cp⟩)[j]? = some u → (W1.alloc (.cells #[] 26)).cell? ⟨L0, j, none⟩ = some u) := fun j u hj => cell_later (below_one W1 _) (HLI.out j u hj)
          have hb := below_one W1 (.cells #[] 26)
          have EW2 := Lib.hid (Ext.trans EW1.out hb)
          refine hK.out _ _ (Ext W) (fun _ h => h) (EW2.out) ?_
          clear hK K
          clear hb
          have hSw := EW2.out
          generalize (W1.alloc (.cells #[] 26)) = W2 at *
          refine wpAnyH_oneS2 (i := 2) rfl (by kernel_rfl) (by rfl) (fun K hK => ?_)
          refine wp_appRaw (.tmp 51) (.tmp 52) 22 26 rfl Try.underlying22 _ 8 88 infoE rfl (by omega) (by omega) L0 (some ⟨W1.heap.size, 0, none⟩) 0 0 [] rfl HR2.out b k c (evals xs) rfl (by rw [evals_len, HXL.out]) (fun j u hj => by obtain ⟨b', off, e, hc⟩ := HY0.out j u hj; exact ⟨b', off, e, cell_later EW2.out hc⟩) (evals_one xs) (by omega) (by have := EW2.out.size; have := HW0.out; omega) ?_
          intro va3 vc3 w3 ho hg
          rw [List.nil_append] at ho
          rw [Nat.zero_add] at ho ⊢
          have HO3 := Lib.hid ho
          have HG3 := Lib.hid hg
          have EW3 : Hid (Ext W w3) := EW2.out.grown hg EW2.out.size (fun j hj => by have h1 := (row_lt HR2.out j hj).1; have h2 := HW0.out; omega)
          clear ho hg
          go_simp
          refine hK.out _ _ (Ext W) (fun _ h => h) (EW3.out) ?_
          clear hK K
          have hSw := EW3.out
          have HLJ : Hid (∀ j u, (ecells ⟨q, loc, cp⟩)[j]? = some u → w3.cell? ⟨L0, j, none⟩ = some u) := fun j u hj => (Chg.of_grown HG3.out).cell (HLK.out j u hj) (by have := HLT.out; simp; omega)
          refine wpAnyH_oneS2 (i := 5) rfl (by kernel_rfl) (by rfl) (fun K hK => ?_)
          refine wp_appRaw (.tmp 53) (.tmp 55) 22 26 rfl Try.underlying22 _ 8 88 infoE rfl (by omega) (by omega) L0 va3 vc3 k (evals xs) rfl HO3.out (some ⟨L0, 0, none⟩) 1 1 (ecells ⟨q, loc, cp⟩) rfl rfl (fun j u hj => ⟨_, 0, rfl, by rw [Nat.zero_add]; exact HLJ.out j u hj⟩) (by intro u hu; simp [ecells] at hu; rcases hu with rfl | rfl | rfl | rfl | rfl | rfl | rfl | rfl <;> rfl) (by omega) (by have := EW3.out.size; have := HW0.out; omega) ?_
          intro va4 vc4 w4 ho hg
          have EW4 : Hid (Ext W w4) := EW3.out.grown hg EW3.out.size (fun j hj => by have h1 := (row_lt HO3.out j hj).1; have h2 := HW0.out; omega)
          have HQ4 : Hid (EnsAt w4 va4 vc4 (es ++ [q])) := fin_row (y := ⟨q, loc, cp⟩) ho HXL.out HXS.out (fun x hx => (HSX.out x hx).below EW4.out) HXW.out (HSQ.out.below EW4.out) HQW.out
          clear ho hg
          go_simp
          refine hK.out _ _ (Ext W) (fun _ h => h) (EW4.out) ?_
          clear hK K
          have hSw := EW4.out
          refine wpAnyH_tkS2 (i := 6) 10 (v := ?_) rfl rfl (by kernel_rfl) (by kernel_rfl) (by kernel_rfl) (by rfl) hSw (fun wq hwq => ?_) ?_
          rotate_left
          · (have hx := True.intro; go_simp <;> with_reducible rfl)
          simp only [List.setIfInBounds_toArray, List.set_cons_zero, List.set_cons_succ]
          refine wpAnyH_done (by kernel_rfl) ?_ _
          refine NoPanic.normal ?_
          have EXF := Lib.hid (Ext.trans HWB0.out EW4.out)
          refine hKK _ _ (Met.intro (hJJ _ _ ?_))
          (repeat apply Exists.intro)
          exact ⟨⟨va4, vc4, rfl, HQ4, EXF⟩, rfl⟩
      case rest =>
      obtain ⟨vw, vwc, rfl, HEW, HEX⟩ := hcut
      have HE6 := HO5.out.at_.2.below HEX.out
      rw [HXS.out] at HE6
      have HO6 := Lib.hid HE6
      have HX6 := Lib.hid (HX5.out.chg (gs := []) (Chg.of_below HEX.out) (by simp))
      have HP6 := Lib.hid (HP5.out.below HEX.out)
      have HB6 := Lib.hid (HB5.out.trans (HEX.out.mono HB5.out.size))
      have HSM : Hid (∀ e ∈ es ++ [q], e.frag.length ≤ 1000000000) := fun e he => by
        rcases List.mem_append.mp he with h | h
        · exact (HS.out.big e h).2
        · rw [List.mem_singleton.mp h]; have := HQF.out.fl; omega
      have HLM : Hid ((es ++ [q]).length = k + 1) := by show _ = _; rw [List.length_append, HL.out]; rfl
      have G1 : Hid (ansF (es ++ [q]) (fndU (es ++ [q]) (last + 1) (kb q) (k + 1)) = (q, true)) := by have := parts_own es q (last + 1) (by have := HQF.out.seq; omega) HQF.out.op; rw [HL.out] at this; exact this
      have G2 : Hid (∀ key, ansF (es ++ [q]) (fndU (es ++ [q]) last key (k + 1)) = ansF es (fndU es last key k)) := fun key => by have := parts_ans (es := es) (q := q) (last := last) (last' := last) (key := key) (fun _ _ => rfl) (hit_no.2 (fun h => by have := HQF.out.seq; omega)); rw [HL.out] at this; exact this
      have G3 : Hid (∀ key, ¬ kb q = key → ansF (es ++ [q]) (fndU (es ++ [q]) (last + 1) key (k + 1)) = ansF es (fndU es last key k)) := fun key hne => by have := parts_ans (es := es) (q := q) (last := last) (last' := last + 1) (key := key) (fun e he => hit_more (HAL.out e he)) (hit_no.2 (fun h => hne h.1)); rw [HL.out] at this; exact this
      have F6 := Lib.hid (ansF_ok HO6.out.wf HS.out (fndU es last a2.data.toList k))
      have hks := key_same' q a2
      clear HE6 HO5 HX5 HP5 HB5 HEX HXS HAL HPW HWB HR
      have e4 := HX6.out.cell 4 (.string (strB q.key)) rfl
      have EX6 := Lib.hid (Ext.refl wc)
      go_wp2_with fail
      refine (find_any vw vwc (k + 1) (es ++ [q]) (strB q.key) (last + 1) wc HLM.out HEW.out HSM.out (by omega)).mono ?_
      intro e v1 h1
      have h1' := h1.one
      clear h1
      rw [strB_list, show q.key.map UInt8.ofNat = kb q from rfl, G1.out] at h1'
      dsimp only at h1'
      obtain ⟨pl1, pc1, rfl, hs4, hb4⟩ := h1'
      have hbl := below_one v1 (.cells #[.int .i64 q.seq, .int .i64 q.client, .int .i64 q.num, .int .i64 q.op, .string (strB q.key), .int .i64 q.size, .int .u32 (q.sum : Int), .slice pl1 q.frag.length pc1] 26)
      have EX1 := Lib.hid (Ext.trans EX6.out (Ext.trans hb4 hbl))
      have ETx1 := Lib.hid (Ext.trans hb4 hbl)
      have HS1 := Lib.hid (hs4.below hbl)
      have HX1 : Hid (Bx ((v1).alloc (.cells #[.int .i64 q.seq, .int .i64 q.client, .int .i64 q.num, .int .i64 q.op, .string (strB q.key), .int .i64 q.size, .int .u32 (q.sum : Int), .slice pl1 q.frag.length pc1] 26)) (v1).heap.size 26 #[.int .i64 q.seq, .int .i64 q.client, .int .i64 q.num, .int .i64 q.op, .string (strB q.key), .int .i64 q.size, .int .u32 (q.sum : Int), .slice pl1 q.frag.length pc1]) := bx_new8 _ _ _
      clear hs4 hb4 hbl
      go_wp2_with fail
      generalize ((v1).alloc (.cells #[.int .i64 q.seq, .int .i64 q.client, .int .i64 q.num, .int .i64 q.op, .string (strB q.key), .int .i64 q.size, .int .u32 (q.sum : Int), .slice pl1 q.frag.length pc1] 26)) = x1 at *
      refine (find_any b c k es a2 last x1 HL.out (HO6.out.below EX1.out) (fun e he => (HS.out.big e he).2) (by omega)).mono ?_
      intro e v2 h1
      have h1' := h1.one
      clear h1
      have G2' := Lib.hid (G2.out a2.data.toList)
      have G3' := Lib.hid (G3.out a2.data.toList)
      clear G2 G3
      generalize ansF es (fndU es last a2.data.toList k) = A at *
      obtain ⟨r, rb⟩ := A
      dsimp only at h1' F6
      obtain ⟨pl2, pc2, rfl, hs4, hb4⟩ := h1'
      have hbl := below_one v2 (.cells #[.int .i64 r.seq, .int .i64 r.client, .int .i64 r.num, .int .i64 r.op, .string (strB r.key), .int .i64 r.size, .int .u32 (r.sum : Int), .slice pl2 r.frag.length pc2] 26)
      have EX2 := Lib.hid (Ext.trans EX1.out (Ext.trans hb4 hbl))
      have ETx2 := Lib.hid (Ext.trans hb4 hbl)
      have HS2 := Lib.hid (hs4.below hbl)
      have HX2 : Hid (Bx ((v2).alloc (.cells #[.int .i64 r.seq, .int .i64 r.client, .int .i64 r.num, .int .i64 r.op, .string (strB r.key), .int .i64 r.size, .int .u32 (r.sum : Int), .slice pl2 r.frag.length pc2] 26)) (v2).heap.size 26 #[.int .i64 r.seq, .int .i64 r.client, .int .i64 r.num, .int .i64 r.op, .string (strB r.key), .int .i64 r.size, .int .u32 (r.sum : Int), .slice pl2 r.frag.length pc2]) := bx_new8 _ _ _
      clear hs4 hb4 hbl
      go_wp2_with fail
      generalize ((v2).alloc (.cells #[.int .i64 r.seq, .int .i64 r.client, .int .i64 r.num, .int .i64 r.op, .string (strB r.key), .int .i64 r.size, .int .u32 (r.sum : Int), .slice pl2 r.frag.length pc2] 26)) = x2 at *
      refine (find_any vw vwc (k + 1) (es ++ [q]) a2 (last + 1) x2 HLM.out (HEW.out.below EX2.out) HSM.out (by omega)).mono ?_
      intro e v3 h1
      have h1' := h1.one
      clear h1
      generalize ansF (es ++ [q]) (fndU (es ++ [q]) (last + 1) a2.data.toList (k + 1)) = A at *
      obtain ⟨s, sb⟩ := A
      dsimp only at h1'
      obtain ⟨pl3, pc3, rfl, hs4, hb4⟩ := h1'
      have hbl := below_one v3 (.cells #[.int .i64 s.seq, .int .i64 s.client, .int .i64 s.num, .int .i64 s.op, .string (strB s.key), .int .i64 s.size, .int .u32 (s.sum : Int), .slice pl3 s.frag.length pc3] 26)
      have EX3 := Lib.hid (Ext.trans EX2.out (Ext.trans hb4 hbl))
      have ETx3 := Lib.hid (Ext.trans hb4 hbl)
      have HS3 := Lib.hid (hs4.below hbl)
      have HX3 : Hid (Bx ((v3).alloc (.cells #[.int .i64 s.seq, .int .i64 s.client, .int .i64 s.num, .int .i64 s.op, .string (strB s.key), .int .i64 s.size, .int .u32 (s.sum : Int), .slice pl3 s.frag.length pc3] 26)) (v3).heap.size 26 #[.int .i64 s.seq, .int .i64 s.client, .int .i64 s.num, .int .i64 s.op, .string (strB s.key), .int .i64 s.size, .int .u32 (s.sum : Int), .slice pl3 s.frag.length pc3]) := bx_new8 _ _ _
      clear hs4 hb4 hbl
      go_wp2_with fail
      generalize ((v3).alloc (.cells #[.int .i64 s.seq, .int .i64 s.client, .int .i64 s.num, .int .i64 s.op, .string (strB s.key), .int .i64 s.size, .int .u32 (s.sum : Int), .slice pl3 s.frag.length pc3] 26)) = x3 at *
      refine (find_any vw vwc (k + 1) (es ++ [q]) a2 last x3 HLM.out (HEW.out.below EX3.out) HSM.out (by omega)).mono ?_
      intro e v4 h1
      have h1' := h1.one
      clear h1
      rw [G2'.out] at h1'
      dsimp only at h1'
      obtain ⟨pl4, pc4, rfl, hs4, hb4⟩ := h1'
      have hbl := below_one v4 (.cells #[.int .i64 r.seq, .int .i64 r.client, .int .i64 r.num, .int .i64 r.op, .string (strB r.key), .int .i64 r.size, .int .u32 (r.sum : Int), .slice pl4 r.frag.length pc4] 26)
      have EX4 := Lib.hid (Ext.trans EX3.out (Ext.trans hb4 hbl))
      have ETx4 := Lib.hid (Ext.trans hb4 hbl)
      have HS4 := Lib.hid (hs4.below hbl)
      have HX4 : Hid (Bx ((v4).alloc (.cells #[.int .i64 r.seq, .int .i64 r.client, .int .i64 r.num, .int .i64 r.op, .string (strB r.key), .int .i64 r.size, .int .u32 (r.sum : Int), .slice pl4 r.frag.length pc4] 26)) (v4).heap.size 26 #[.int .i64 r.seq, .int .i64 r.client, .int .i64 r.num, .int .i64 r.op, .string (strB r.key), .int .i64 r.size, .int .u32 (r.sum : Int), .slice pl4 r.frag.length pc4]) := bx_new8 _ _ _
      clear hs4 hb4 hbl
      go_upto_region 17 with fail
      generalize ((v4).alloc (.cells #[.int .i64 r.seq, .int .i64 r.client, .int .i64 r.num, .int .i64 r.op, .string (strB r.key), .int .i64 r.size, .int .u32 (r.sum : Int), .slice pl4 r.frag.length pc4] 26)) = x4 at *
      have T34 := ETx4.out
      have T24 := Ext.trans ETx3.out T34
      have T14 := Ext.trans ETx2.out T24
      have HA := Lib.hid (HX1.out.chg (gs := []) (Chg.of_below T14) (by simp))
      have HBB := Lib.hid (HX6.out.chg (gs := []) (Chg.of_below EX4.out) (by simp))
      have HC := Lib.hid (HX2.out.chg (gs := []) (Chg.of_below T24) (by simp))
      have HD := Lib.hid (HX3.out.chg (gs := []) (Chg.of_below T34) (by simp))
      have HSA := Lib.hid (HS1.out.below T14)
      have HSB := Lib.hid (HP6.out.below EX4.out)
      have HSC := Lib.hid (HS2.out.below T24)
      have HSD := Lib.hid (HS3.out.below T34)
      have HB7 := Lib.hid (HB6.out.trans (EX4.out.mono HB6.out.size))
      have HK1 : Hid (q.key.length ≤ 10000000 ∧ q.frag.length ≤ 10000000) := ⟨Nat.le_trans HQF.out.kl (by omega), Nat.le_trans HQF.out.fl (by omega)⟩
      clear T34 T24 T14 HX1 HX6 HX2 HX3 HS1 HP6 HS2 HS3 HB6 EX1 EX2 EX3 EX4 EX6 ETx1 ETx2 ETx3 ETx4 G1 G2' HSM HLM HEW HO6
      have e0 := HA.out.cell 0 (.int .i64 q.seq) rfl
      have e1 := HA.out.cell 1 (.int .i64 q.client) rfl
      have e2 := HA.out.cell 2 (.int .i64 q.num) rfl
      have e3 := HA.out.cell 3 (.int .i64 q.op) rfl
      have e4 := HA.out.cell 4 (.string (strB q.key)) rfl
      have e5 := HA.out.cell 5 (.int .i64 q.size) rfl
      have e6 := HA.out.cell 6 (.int .u32 (q.sum : Int)) rfl
      have e7 := HA.out.cell 7 (.slice pl1 q.frag.length pc1) rfl
      have y0 := HBB.out.cell 0 (.int .i64 q.seq) rfl
      have y1 := HBB.out.cell 1 (.int .i64 q.client) rfl
      have y2 := HBB.out.cell 2 (.int .i64 q.num) rfl
      have y3 := HBB.out.cell 3 (.int .i64 q.op) rfl
      have y4 := HBB.out.cell 4 (.string (strB q.key)) rfl
      have y5 := HBB.out.cell 5 (.int .i64 q.size) rfl
      have y6 := HBB.out.cell 6 (.int .u32 (q.sum : Int)) rfl
      have y7 := HBB.out.cell 7 (.slice loc q.frag.length cp) rfl
      go_wp2_with fail
      refine (refSame_any q q pl1 loc pc1 cp x4 HQW.out HQW.out HSA.out HSB.out HK1.out.1 HK1.out.2 HK1.out.1 HK1.out.2).mono ?_
      rw [decide_eq_true rfl]
      rintro e x5 ⟨rfl, hb5⟩
      clear e0 e1 e2 e3 e4 e5 e6 e7
      clear y0 y1 y2 y3 y4 y5 y6 y7
      have HBB5 := Lib.hid (HBB.out.chg (gs := []) (Chg.of_below hb5) (by simp))
      have HC5 := Lib.hid (HC.out.chg (gs := []) (Chg.of_below hb5) (by simp))
      have HD5 := Lib.hid (HD.out.chg (gs := []) (Chg.of_below hb5) (by simp))
      have HE5 := Lib.hid (HX4.out.chg (gs := []) (Chg.of_below hb5) (by simp))
      have HSC5 := Lib.hid (HSC.out.below hb5)
      have HSD5 := Lib.hid (HSD.out.below hb5)
      have HSE5 := Lib.hid (HS4.out.below hb5)
      have HB8 := Lib.hid (HB7.out.trans (hb5.mono HB7.out.size))
      clear hb5 HA HBB HC HD HX4 HSA HSB HSC HSD HS4 HB7 HQW HK1 HQF
      cases rb with
      | true =>
        have e0 := HC5.out.cell 0 (.int .i64 r.seq) rfl
        have e1 := HC5.out.cell 1 (.int .i64 r.client) rfl
        have e2 := HC5.out.cell 2 (.int .i64 r.num) rfl
        have e3 := HC5.out.cell 3 (.int .i64 r.op) rfl
        have e4 := HC5.out.cell 4 (.string (strB r.key)) rfl
        have e5 := HC5.out.cell 5 (.int .i64 r.size) rfl
        have e6 := HC5.out.cell 6 (.int .u32 (r.sum : Int)) rfl
        have e7 := HC5.out.cell 7 (.slice pl2 r.frag.length pc2) rfl
        have y0 := HE5.out.cell 0 (.int .i64 r.seq) rfl
        have y1 := HE5.out.cell 1 (.int .i64 r.client) rfl
        have y2 := HE5.out.cell 2 (.int .i64 r.num) rfl
        have y3 := HE5.out.cell 3 (.int .i64 r.op) rfl
        have y4 := HE5.out.cell 4 (.string (strB r.key)) rfl
        have y5 := HE5.out.cell 5 (.int .i64 r.size) rfl
        have y6 := HE5.out.cell 6 (.int .u32 (r.sum : Int)) rfl
        have y7 := HE5.out.cell 7 (.slice pl4 r.frag.length pc4) rfl
        go_wp2_with fail
        refine (refSame_any r r pl2 pl4 pc2 pc4 x5 F6.out.1 F6.out.1 HSC5.out HSE5.out F6.out.2.1 F6.out.2.2 F6.out.2.1 F6.out.2.2).mono ?_
        rw [decide_eq_true rfl]
        rintro e x6 ⟨rfl, hb6⟩
        clear e0 e1 e2 e3 e4 e5 e6 e7
        clear y0 y1 y2 y3 y4 y5 y6 y7
        have HB9 := Lib.hid (HB8.out.trans (hb6.mono HB8.out.size))
        go_wp2_with fail
        refine (awake10 x6).mono ?_
        rintro e x7 ⟨rfl, hb7⟩
        have hb67 := Ext.trans hb6 hb7
        have HB10 := Lib.hid (HB8.out.trans (Below.mono hb67 HB8.out.size))
        have e4 := (HBB5.out.chg (gs := []) (Chg.of_below hb67) (by simp)).cell 4 (.string (strB q.key)) rfl
        by_cases hk5 : kb q = a2.data.toList
        · have d5 : (a2.toList == (strB q.key).toList) = true := by rw [hks, decide_eq_true hk5]
          clear hk5 hks hb6 hb7 hb67
          go_wp2
          go_ret
          exact ⟨rfl, HB10.out⟩
        · have d5 : (a2.toList == (strB q.key).toList) = false := by rw [hks, decide_eq_false hk5]
          have h5 := G3'.out hk5
          injection h5 with h5a h5b
          subst h5a h5b
          have c0 := (HC5.out.chg (gs := []) (Chg.of_below hb67) (by simp)).cell 0 (.int .i64 s.seq) rfl
          have c1 := (HC5.out.chg (gs := []) (Chg.of_below hb67) (by simp)).cell 1 (.int .i64 s.client) rfl
          have c2 := (HC5.out.chg (gs := []) (Chg.of_below hb67) (by simp)).cell 2 (.int .i64 s.num) rfl
          have c3 := (HC5.out.chg (gs := []) (Chg.of_below hb67) (by simp)).cell 3 (.int .i64 s.op) rfl
          have c4 := (HC5.out.chg (gs := []) (Chg.of_below hb67) (by simp)).cell 4 (.string (strB s.key)) rfl
          have c5 := (HC5.out.chg (gs := []) (Chg.of_below hb67) (by simp)).cell 5 (.int .i64 s.size) rfl
          have c6 := (HC5.out.chg (gs := []) (Chg.of_below hb67) (by simp)).cell 6 (.int .u32 (s.sum : Int)) rfl
          have c7 := (HC5.out.chg (gs := []) (Chg.of_below hb67) (by simp)).cell 7 (.slice pl2 s.frag.length pc2) rfl
          have y0 := (HD5.out.chg (gs := []) (Chg.of_below hb67) (by simp)).cell 0 (.int .i64 s.seq) rfl
          have y1 := (HD5.out.chg (gs := []) (Chg.of_below hb67) (by simp)).cell 1 (.int .i64 s.client) rfl
          have y2 := (HD5.out.chg (gs := []) (Chg.of_below hb67) (by simp)).cell 2 (.int .i64 s.num) rfl
          have y3 := (HD5.out.chg (gs := []) (Chg.of_below hb67) (by simp)).cell 3 (.int .i64 s.op) rfl
          have y4 := (HD5.out.chg (gs := []) (Chg.of_below hb67) (by simp)).cell 4 (.string (strB s.key)) rfl
          have y5 := (HD5.out.chg (gs := []) (Chg.of_below hb67) (by simp)).cell 5 (.int .i64 s.size) rfl
          have y6 := (HD5.out.chg (gs := []) (Chg.of_below hb67) (by simp)).cell 6 (.int .u32 (s.sum : Int)) rfl
          have y7 := (HD5.out.chg (gs := []) (Chg.of_below hb67) (by simp)).cell 7 (.slice pl3 s.frag.length pc3) rfl
          have HSC7 := Lib.hid (HSC5.out.below hb67)
          have HSD7 := Lib.hid (HSD5.out.below hb67)
          clear hk5 hks hb6 hb7 hb67 G3' HC5 HD5 HE5 HBB5 HSC5 HSD5 HSE5
          go_wp2_with fail
          refine (refSame_any s s pl2 pl3 pc2 pc3 x7 F6.out.1 F6.out.1 HSC7.out HSD7.out F6.out.2.1 F6.out.2.2 F6.out.2.1 F6.out.2.2).mono ?_
          rw [decide_eq_true rfl]
          rintro e x8 ⟨rfl, hb8⟩
          have HB11 := Lib.hid (HB10.out.trans (hb8.mono HB10.out.size))
          clear hb8
          go_wp2
          go_ret
          exact ⟨rfl, HB11.out⟩
      | false =>
        go_wp2_with fail
        refine (awake10 x5).mono ?_
        rintro e x7 ⟨rfl, hb7⟩
        have HB10 := Lib.hid (HB8.out.trans (hb7.mono HB8.out.size))
        have e4 := (HBB5.out.chg (gs := []) (Chg.of_below hb7) (by simp)).cell 4 (.string (strB q.key)) rfl
        by_cases hk5 : kb q = a2.data.toList
        · have d5 : (a2.toList == (strB q.key).toList) = true := by rw [hks, decide_eq_true hk5]
          clear hk5 hks hb7
          go_wp2
          go_ret
          exact ⟨rfl, HB10.out⟩
        · have d5 : (a2.toList == (strB q.key).toList) = false := by rw [hks, decide_eq_false hk5]
          have h5 := G3'.out hk5
          injection h5 with h5a h5b
          subst h5a h5b
          clear hk5 hks hb7 G3'
          go_wp2
          go_ret
          exact ⟨rfl, HB10.out⟩

end Go.Proofs.Ytdifnipjmnbojaa
