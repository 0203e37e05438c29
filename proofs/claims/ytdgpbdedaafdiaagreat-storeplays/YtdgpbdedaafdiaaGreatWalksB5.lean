/-
  book: Open, Append.
-/
import Derived.Test.YtdgpbdedaafdiaaGreatWalksB4
import Derived.Test.YtdgpbdedaafdiaaGreatWalksY4
namespace Go.Proofs.YtdgpbdedaafdiaaGreat
open Go.RowKit



/-- A book is made of a disk. -/
theorem Bk.made {w w2 w3 : World} {base R n gc : Nat} {a a' ga : Option Addr} {s s' : DS} {xs : List Rw} (h : Dsk w base R a s) (hb2 : Below w.heap.size w w2) (hr : Rws w2 w.heap.size ga gc xs) (hx : ∀ x ∈ xs, ∀ g ∈ blk x.loc, w.heap.size ≤ g)
    (hd : Dsk w3 base R a' s') (hg : Chg (R :: blk a) w2 w3) (hw : Went w2 a a') (hn : xs.length = n) :
    Bk (w3.alloc (.cells #[.pointer (some ⟨R, 0, none⟩), .slice ga n gc] 85)) base w3.heap.size R a' ga s' (xs.map Rw.ps) (xs.flatMap fun x => blk x.loc) ∧ Mv w (w3.alloc (.cells #[.pointer (some ⟨R, 0, none⟩), .slice ga n gc] 85)) (R :: blk a) (bkM w3.heap.size R a' ga) := by
  subst hn
  have hR := h.lt
  have hs2 := hb2.size
  have hs3 := hg.size
  have hold : ∀ g, w.heap.size ≤ g → g ∉ R :: blk a := fun g hge e => by
    rcases List.mem_cons.mp e with rfl | e
    · omega
    · have := (h.blkLt e).2; omega
  have hold' : ∀ g, w.heap.size ≤ g → g < w2.heap.size → g ∉ blk a' := fun g hge hlt e => by
    rcases hw.old g e with e | e
    · have := (h.blkLt e).2; omega
    · omega
  have hr3 : Rws w3 w.heap.size ga gc xs := hr.chg hg (fun g hg' => hold g (hr.lt hg').1) (fun x hx' g hg' => hold g (hx x hx' g hg'))
  have hb4 := below_one w3 (.cells #[.pointer (some ⟨R, 0, none⟩), .slice ga xs.length gc] 85)
  have hba := h.base
  refine ⟨⟨hd.below hb4, by simp, ⟨gc, xs, by simp, rfl, rws_base (hr3.below hb4) (by omega), fun x hx' g hg' => ⟨fun e => ?_, List.mem_flatMap.mpr ⟨x, hx', hg'⟩⟩⟩, fun k => by simp, by omega, fun e => ?_, fun e => ?_, fun e => ?_, fun g hg' e => ?_, by omega⟩, ⟨?_, fun g hg' => ?_⟩⟩
  · have h1 := hx x hx' g hg'
    have h2 := hr.far x hx' g hg'
    unfold bkM at e
    simp only [List.mem_cons, List.mem_append] at e
    rcases e with e | e | e | e
    · omega
    · omega
    · exact hold' g h1 h2.2 e
    · exact h2.1 e
  · have := (hd.blkLt e).2; omega
  · have := (hr.lt e).2; omega
  · have := (hr.lt e).1; omega
  · exact hold' g (hr.lt e).1 (hr.lt e).2 hg'
  · exact ((Chg.of_below hb2).trans hg).alloc _
  · unfold bkM at hg'
    simp only [List.mem_cons, List.mem_append] at hg'
    rcases hg' with e | e | e | e
    · right; omega
    · left; simp [e]
    · rcases hw.old g e with e | e
      · left; simp [e]
      · right; omega
    · right; exact (hr.lt e).1

/-- What Open answers. -/
def RetOp (w : World) (base R : Nat) (a : Option Addr) (s : DS) (e : Ending) (w' : World) : Prop :=
  ∃ RB a' ga cs rest F, e = .returned (.tuple #[.pointer (some ⟨RB, 0, none⟩), .int .i64 0]) ∧ Vld s.ps cs rest ∧ Bk w' base RB R a' ga { s with ps := frms cs } cs F ∧ Mv w w' (R :: blk a) (bkM RB R a' ga)

set_option maxRecDepth 100000 in
set_option maxHeartbeats 1000000 in
theorem bkOpen_any (base R : Nat) (a : Option Addr) (s : DS) (w : World) (h : Dsk w base R a s) (ho : s.off = false) (ht : s.torn = false) :
    Calls Tryz.prog 15 #[.pointer (some ⟨R, 0, none⟩)] w (RetOp w base R a s) := by
  have hl : s.ps.length ≤ 16777216 := by have := h.fits; have := h.most; omega
  have HFI := Lib.hid h.fits
  have HH := Lib.hid h
  have HO := Lib.hid ho
  have HT := Lib.hid ht
  clear h ho ht
  go_enter Tryz.func15, Tryz.ntmps15
  go_wp2_with fail
  refine (disk_read_on base R a s _ HH.out HO.out).mono ?_
  rintro e w1 ⟨a1, c1, rfl, hs1, hf1, hb1⟩
  have HS1 := Lib.hid hs1
  have HF1 : Hid (∀ g ∈ blk a1, w.heap.size ≤ g) := by
    intro g hg
    rcases hf1 with rfl | ⟨b, off, rfl, h1, _⟩
    · simp [blk] at hg
    · simp [blk] at hg; omega
  have HB1 : Hid (Ext w w1) := hb1
  obtain ⟨l, hll⟩ : ∃ l, s.ps.length = l := ⟨_, rfl⟩
  rw [hll] at hl ⊢
  have HL := Lib.hid hll
  clear hs1 hf1 hb1 hll
  go_wp2_with fail
  refine (valid_any _ _ _ s.ps _ HL.out HS1.out (by omega)).mono ?_
  rintro e w2 ⟨ga, gc, xs, rest, rfl, hv, hr, hx, hb2⟩
  have HV := Lib.hid hv
  have HB2 := Lib.hid (HB1.out.trans hb2)
  have HR2 := Lib.hid (rws_base hr HB1.out.size)
  have HX2 : Hid (∀ x ∈ xs, ∀ g ∈ blk x.loc, w.heap.size ≤ g) := fun x hx' g hg => HF1.out g (by rw [← hx x hx']; exact hg)
  have HS2 := Lib.hid (HS1.out.below hb2)
  have hsz := vld_size s.ps _ rest hv.eq
  have HFR : Hid (s.ps.take (frms (xs.map Rw.ps)).length = frms (xs.map Rw.ps)) := hsz.2.1
  obtain ⟨n, hn⟩ : ∃ n, xs.length = n := ⟨_, rfl⟩
  have HN := Lib.hid hn
  obtain ⟨z, hz⟩ : ∃ z, (frms (xs.map (fun x => x.ps))).length = z := ⟨_, rfl⟩
  have hzl : z + rest.length = l := by rw [← hz, ← HL.out]; exact hsz.2.2
  have HZ : Hid ((frms (xs.map Rw.ps)).length = z) := hz
  rw [hz, hn]
  clear hv hr hx hb2 hsz hn hz HS1
  by_cases hzz : z < l
  · have hd1 : decide ((z : Int) < (l : Int)) = true := by simp; omega
    have hd2 : decide (z < l) = true := by simp; omega
    have hsl := seen_take a1 l c1 z s.ps w2 HL.out HS2.out (by omega)
    have hsl' := seen_take' a1 l c1 z s.ps w2 HL.out HS2.out (by omega)
    have HTK : Hid ((s.ps.take z).length = z) := by show _ = _; rw [List.length_take, HL.out]; omega
    have HNE : Hid (s.ps.take z ≠ [] → ∀ g ∈ blk a1, g ≠ R) := fun _ g hg e => by have := HF1.out g hg; have := HH.out.lt; omega
    have HW : Hid (wrt s (s.ps.take z) true = (0, { s with ps := frms (xs.map Rw.ps) })) := by
      show _ = _
      unfold wrt
      rw [if_neg (by rw [HO.out]; simp), if_neg (by rw [HTK.out]; have := HFI.out; have := HL.out; simp; omega), if_neg (by rw [HT.out]; simp), if_pos rfl, List.nil_append, ← HFR.out, HZ.out]
    go_wp2_with fail
    refine (disk_replace base R a s a1 c1 z (s.ps.take z) _ (HH.out.below HB2.out) HTK.out (HS2.out.take z) HNE.out).mono ?_
    rw [HW.out]
    rintro e w3 ⟨rfl, a3, hd3, hg3, hw3⟩
    have hfin := Lib.hid (Bk.made HH.out HB2.out HR2.out HX2.out hd3 hg3 hw3 HN.out)
    clear hd3 hg3 hw3 hsl hsl'
    go_wp2
    go_ret2
    exact ⟨_, _, _, _, rest, _, rfl, HV.out, hfin.out.1, hfin.out.2⟩
  · have hd1 : decide ((z : Int) < (l : Int)) = false := by simp; omega
    have hd2 : decide (z < l) = false := by simp; omega
    have he : z = l := by omega
    have HPS : Hid ({ s with ps := frms (xs.map Rw.ps) } = s) := by
      show _ = _
      have h1 := HFR.out
      rw [HZ.out, he, ← HL.out, List.take_length] at h1
      rw [← h1]
    have hfin := Lib.hid (Bk.made HH.out HB2.out HR2.out HX2.out (HH.out.below HB2.out) (Chg.refl _ _) (.inl rfl) HN.out)
    go_wp2
    go_ret2
    exact ⟨_, _, _, _, rest, _, rfl, HV.out, by have := hfin.out.1; rw [← HPS.out] at this; exact this, hfin.out.2⟩

/-- What Append answers and leaves. -/
def RetAp (w : World) (base RB R : Nat) (a ga : Option Addr) (p : Int × DS) (cs cs' : List (List Nat)) (F : List Nat) (e : Ending) (w' : World) : Prop :=
  e = .returned (.int .i64 p.1) ∧ ∃ a' ga' F', Bk w' base RB R a' ga' p.2 (if p.1 = 0 then cs' else cs) F' ∧ Mv w w' (bkM RB R a ga) (bkM RB R a' ga') ∧ ∀ g ∈ F', g ∈ F ∨ (w.heap.size ≤ g ∧ g < w'.heap.size)

set_option maxRecDepth 100000 in
set_option maxHeartbeats 1000000 in
theorem bkAppend_no (RB : Nat) (ma ea : Option Addr) (mc ec lm le : Nat) (r : Pr) (w : World) (h : RecAt w ma mc ea ec r) (hlm : r.mem.length = lm) (hle : r.ents.length = le) (hno : sndR r = false) :
    Calls Tryz.prog 60 #[.pointer (some ⟨RB, 0, none⟩), .agg #[.int .i64 r.kind, .int .i64 r.epoch, .slice ma lm mc, .int .i64 r.pos, .int .i64 r.last, .slice ea le ec]] w fun e w' => e = .returned (.int .i64 2) ∧ Below w.heap.size w w' := by
  have E0 : Hid (Ext w (w.alloc (.cells #[.int .i64 r.kind, .int .i64 r.epoch, .slice ma lm mc, .int .i64 r.pos, .int .i64 r.last, .slice ea le ec] 35))) := below_one w _
  have HR := Lib.hid (h.below E0.out)
  have HLM := Lib.hid hlm
  have HLE := Lib.hid hle
  have HN := Lib.hid hno
  clear h hlm hle hno
  go_enter Tryz.func60, Tryz.ntmps60
  go_wp2_with fail
  refine (encode_no _ _ _ _ _ _ r _ HR.out HLM.out HLE.out HN.out).mono ?_
  rintro e w1 ⟨rfl, hb1⟩
  have E1 := Lib.hid (E0.out.trans hb1)
  clear hb1
  go_wp2
  go_ret
  exact ⟨rfl, E1.out⟩

set_option maxRecDepth 100000 in
set_option maxHeartbeats 2000000 in
theorem bkAppend_yes (base RB R : Nat) (a ga : Option Addr) (s : DS) (cs : List (List Nat)) (F : List Nat) (ma ea : Option Addr) (mc ec lm le : Nat) (r : Pr) (w : World) (hB : Bk w base RB R a ga s cs F) (hcl : cs.length ≤ 100000000) (h : RecAt w ma mc ea ec r) (hlm : r.mem.length = lm) (hle : r.ents.length = le) (hyes : sndR r = true) :
    Calls Tryz.prog 60 #[.pointer (some ⟨RB, 0, none⟩), .agg #[.int .i64 r.kind, .int .i64 r.epoch, .slice ma lm mc, .int .i64 r.pos, .int .i64 r.last, .slice ea le ec]] w (RetAp w base RB R a ga (wrt s (frm (encR r)) false) cs (cs ++ [encR r]) F) := by
  have E0 : Hid (Ext w (w.alloc (.cells #[.int .i64 r.kind, .int .i64 r.epoch, .slice ma lm mc, .int .i64 r.pos, .int .i64 r.last, .slice ea le ec] 35))) := below_one w _
  have HR := Lib.hid (h.below E0.out)
  have HLM := Lib.hid hlm
  have HLE := Lib.hid hle
  have HY := Lib.hid hyes
  have HQL : Hid ((encR r).length ≤ 2000000) := encR_len r hyes
  have HBK := Lib.hid hB
  have HCL := Lib.hid hcl
  clear h hlm hle hyes hB hcl
  go_enter Tryz.func60, Tryz.ntmps60
  go_wp2_with fail
  refine (encode_yes _ _ _ _ _ _ r _ HR.out HLM.out HLE.out HY.out).mono ?_
  rintro e w1 ⟨g1, c1, rfl, ho1, hb1⟩
  have E1 := Lib.hid (E0.out.trans hb1)
  have HO1 := Lib.hid (ho1.base (base' := w.heap.size) (by simp))
  clear ho1 hb1 HR HLM HLE HY
  generalize encR r = C at *
  obtain ⟨q, hq⟩ : ∃ q, C.length = q := ⟨_, rfl⟩
  have HQ := Lib.hid hq
  have hq2 : q ≤ 2000000 := by rw [← hq]; exact HQL.out
  rw [hq]
  clear hq HQL
  have HB1 := Lib.hid (HBK.out.below E1.out)
  go_wp2_with fail
  refine wp_region_S2 (fun x => x.cell? ⟨RB, 0, none⟩ = some (.pointer (some ⟨R, 0, none⟩))) (by kernel_rfl) ?_
  have hSw : w1.drew.cell? ⟨RB, 0, none⟩ = some (.pointer (some ⟨R, 0, none⟩)) := HB1.out.b0
  have E2 : Hid (Ext w w1.drew) := E1.out.drew
  have HO2 := Lib.hid HO1.out.drew
  have HB2 := Lib.hid (HB1.out.below (Below.drew (Below.refl _ w1)))
  clear HB1 E1 HO1
  generalize w1.drew = w2 at *
  refine wpAnyH_tkS2 (i := 0) 18 (v := ?_) rfl rfl (by kernel_rfl) (by kernel_rfl) (by kernel_rfl) (by rfl) hSw (fun wq hwq => ?_) ?_
  rotate_left
  · (have hx := True.intro; go_simp <;> with_reducible rfl)
  simp only [List.setIfInBounds_toArray, List.set_cons_zero, List.set_cons_succ]
  refine wpAnyH_tkS2 (i := 1) 19 (v := ?_) rfl rfl (by kernel_rfl) (by kernel_rfl) (by kernel_rfl) (by rfl) hSw (fun wq hwq => ?_) ?_
  rotate_left
  · (have hx := True.intro; go_simp <;> with_reducible rfl)
  simp only [List.setIfInBounds_toArray, List.set_cons_zero, List.set_cons_succ]
  refine wpAnyH_tkS2 (i := 2) 20 (v := ?_) rfl rfl (by kernel_rfl) (by kernel_rfl) (by kernel_rfl) (by rfl) hSw (fun wq hwq => ?_) ?_
  rotate_left
  · (have hx := True.intro; go_simp <;> with_reducible rfl)
  simp only [List.setIfInBounds_toArray, List.set_cons_zero, List.set_cons_succ]
  refine wpAnyH_tkS2 (i := 3) 21 (v := ?_) rfl rfl (by kernel_rfl) (by kernel_rfl) (by kernel_rfl) (by rfl) hSw (fun wq hwq => ?_) ?_
  rotate_left
  · (have hx := hwq; go_simp <;> with_reducible rfl)
  simp only [List.setIfInBounds_toArray, List.set_cons_zero, List.set_cons_succ]
  refine wpAnyH_tkS2 (i := 4) 22 (v := ?_) rfl rfl (by kernel_rfl) (by kernel_rfl) (by kernel_rfl) (by rfl) hSw (fun wq hwq => ?_) ?_
  rotate_left
  · (have hx := True.intro; go_simp <;> with_reducible rfl)
  simp only [List.setIfInBounds_toArray, List.set_cons_zero, List.set_cons_succ]
  refine wpAnyH_oneS2 (i := 5) rfl (by kernel_rfl) (by rfl) (fun K hK => ?_)
  go_simp
  refine (bkFrame_any _ _ _ C _ HQ.out (by omega) HO2.out.seenAt).mono ?_
  rintro e w3 ⟨g3, c3, rfl, ho3, hb3⟩
  have E3 := Lib.hid (E2.out.trans hb3)
  have HO3 := Lib.hid (HO2.out.chg (gs := []) (Chg.of_below hb3) (by simp))
  have HB3 := Lib.hid (HB2.out.below hb3)
  have HS3 := Lib.hid ho3.seenAt
  have HNE3 : Hid (frm C ≠ [] → ∀ g ∈ blk (some ⟨g3, 0, none⟩), g ≠ R) := fun _ g hg e => by
    simp [blk] at hg
    have h1 := ho3.lt.1
    have h2 := HB2.out.dsk.lt
    omega
  have hFL := frm_len C
  rw [hFL]
  rw [HQ.out] at hFL ⊢
  have HFL := Lib.hid hFL
  refine hK.out _ _ (fun x => x.cell? ⟨RB, 0, none⟩ = some (.pointer (some ⟨R, 0, none⟩))) (fun _ h => h) (cell_later hb3 hSw) ?_
  clear hK K
  clear hSw ho3 hb3 HO2 HB2 E2 hFL
  refine wpAnyH_oneS2 (i := 6) rfl (by kernel_rfl) (by rfl) (fun K hK => ?_)
  go_simp
  refine (disk_append base R a s _ c3 (8 + q) (frm C) _ HB3.out.dsk HFL.out HS3.out HNE3.out).mono ?_
  rintro e w4 ⟨rfl, a4, hd4, hg4, hw4⟩
  have HB4 := Lib.hid (HB3.out.wrote hd4 hg4 hw4)
  have HM4 := Lib.hid ((Mv.of_below (bkM RB R a ga) E3.out).trans (HB3.out.wroteMv hg4 hw4))
  have HSC4 : Hid (SeenAt w4 (some ⟨g1, 0, none⟩) c1 C ∧ g1 ∉ bkM RB R a4 ga ∧ g1 < w4.heap.size ∧ w.heap.size ≤ g1) := by
    have h1 := HO3.out.lt
    have hold : g1 ∉ bkM RB R a ga := fun e => by have := (HBK.out.mLt e).2; omega
    have hnew : g1 ∉ bkM RB R a4 ga := fun e => by
      rcases (HB3.out.wroteMv hg4 hw4).now g1 e with h | h
      · exact hold h
      · omega
    refine ⟨seen_chg HO3.out.seenAt hg4 fun g hg e => ?_, hnew, Nat.lt_of_lt_of_le h1.2 hg4.size, h1.1⟩
    simp [blk] at hg
    subst hg
    refine hold ?_
    unfold bkM
    simp only [List.mem_cons, List.mem_append] at e ⊢
    rcases e with e | e
    · exact .inr (.inl e)
    · exact .inr (.inr (.inl e))
  have HBS : Hid (base ≤ w4.heap.size) := by have := HB4.out.base; have := HB4.out.lt; show _ ≤ _; omega
  clear hd4 hg4 hw4 HNE3 HS3 HFL E3 HO3 HB3
  generalize wrt s (frm C) false = p at *
  obtain ⟨n, s4⟩ := p
  have hSw : w4.cell? ⟨RB, 0, none⟩ = some (.pointer (some ⟨R, 0, none⟩)) := HB4.out.b0
  refine hK.out _ _ (fun x => x.cell? ⟨RB, 0, none⟩ = some (.pointer (some ⟨R, 0, none⟩))) (fun _ h => h) (hSw) ?_
  clear hK K
  refine wpAnyH_tkS2 (i := 7) 7 (v := ?_) rfl rfl (by kernel_rfl) (by kernel_rfl) (by kernel_rfl) (by rfl) hSw (fun wq hwq => ?_) ?_
  rotate_left
  · (have hx := True.intro; go_simp <;> with_reducible rfl)
  simp only [List.setIfInBounds_toArray, List.set_cons_zero, List.set_cons_succ]
  refine wpAnyH_done (by kernel_rfl) ?_ _
  refine NoPanic.normal ?_
  clear hSw
  by_cases hn : n = 0
  · have hn1 : (n != 0) = false := by simp [hn]
    have HF0 : Hid (∀ w5 a5 ga5, Bk w5 base RB R a5 ga5 s4 (cs ++ [C]) (g1 :: F) → Mv w w5 (bkM RB R a ga) (bkM RB R a5 ga5) → w4.heap.size ≤ w5.heap.size → RetAp w base RB R a ga (n, s4) cs (cs ++ [C]) F (.returned (.int .i64 0)) w5) := fun w5 a5 ga5 h1 h2 h3 => ⟨by rw [hn], a5, ga5, g1 :: F, by rw [if_pos hn]; exact h1, h2, fun g hg => by rcases List.mem_cons.mp hg with e | e; exact .inr (by rw [e]; exact ⟨HSC4.out.2.2.2, Nat.lt_of_lt_of_le HSC4.out.2.2.1 h3⟩); exact .inl e⟩
    clear hn
    obtain ⟨gc, xs, hc1, hxs, hr, hfar⟩ := HB4.out.rows
    have HC1 := Lib.hid hc1
    have HXS := Lib.hid hxs
    have HRR := Lib.hid hr
    have HFAR := Lib.hid hfar
    have hfr := HB4.out.free 1
    have hlt4 := HB4.out.lt
    obtain ⟨m, hm⟩ : ∃ m, xs.length = m := ⟨_, rfl⟩
    have hmc : m ≤ 100000000 := by rw [← hm, ← List.length_map (f := Rw.ps), hxs]; exact HCL.out
    rw [hm] at hc1
    have HM := Lib.hid hm
    clear hr hfar hxs hm
    have hbl := below_one w4 (.cells #[.slice (some ⟨g1, 0, none⟩) q c1] 39)
    have HR5 := Lib.hid (HRR.out.below hbl)
    have HS5 := Lib.hid (HSC4.out.1.below hbl)
    have hBS5 := Nat.le_trans HBS.out hbl.size
    go_wp2_with (at_builtin; refine wpList_appRw rfl (.tmp 32) (.tmp 34) rfl base ga gc xs m HM.out rfl HR5.out ⟨some ⟨g1, 0, none⟩, c1, C⟩ w4.heap.size 1 rfl (by rw [World.cell?_alloc_mark]; rw [Rw.val, HQ.out]; rfl) (by omega) hBS5 HS5.out (fun g hg => by simp [blk] at hg; subst hg; refine ⟨fun e => HSC4.out.2.1 ?_, by have := HSC4.out.2.2.1; simp; omega⟩; unfold bkM; simp only [List.mem_cons, List.mem_append]; exact .inr (.inr (.inr e))) ?_; intro g6 c6 w6 hr6 chg6 hg6; have hcw := cell_far chg6 HB4.out.neG (cell_later hbl HC1.out); have hfw := free_far chg6 HB4.out.neG (Nat.lt_of_lt_of_le hlt4 hbl.size) ((hbl.frozen hlt4).trans hfr); have HR6 := Lib.hid hr6; have HG6 := Lib.hid chg6; have HA6 := Lib.hid hg6; clear hr6 chg6 hg6)
    have hX6 : ∀ x ∈ xs ++ [(⟨some ⟨g1, 0, none⟩, c1, C⟩ : Rw)], ∀ g ∈ blk x.loc, g ∉ RB :: R :: blk a4 := fun x hx g hg e => by
      have e' : g ∈ bkM RB R a4 ga := by
        unfold bkM
        simp only [List.mem_cons, List.mem_append] at e ⊢
        rcases e with e | e | e
        · exact .inl e
        · exact .inr (.inl e)
        · exact .inr (.inr (.inl e))
      rcases List.mem_append.mp hx with hx | hx
      · exact (HFAR.out x hx g hg).1 e'
      · rw [List.mem_singleton.mp hx] at hg
        simp [blk] at hg
        subst hg
        exact HSC4.out.2.1 e'
    have hP := Bk.put HB4.out ((Chg.of_below hbl).trans HG6.out) (fun g hg => hg) HR6.out (fun g hg => by
      simp [blk] at hg
      subst hg
      rcases HA6.out with h | h
      · exact .inl h
      · exact .inr (Nat.le_trans hbl.size h)) hX6 (n := m + 1) (by rw [List.length_append, HM.out]; rfl) (g1 :: F) (fun x hx g hg => by rcases List.mem_append.mp hx with hx | hx; exact List.mem_cons_of_mem _ (HFAR.out x hx g hg).2; rw [List.mem_singleton.mp hx] at hg; simp [blk] at hg; subst hg; exact List.mem_cons_self ..)
    rw [List.map_append, HXS.out] at hP
    have HP := Lib.hid (HF0.out _ _ _ hP.1 (HM4.out.trans hP.2) hP.2.chg.size)
    clear hP hX6
    go_ret
    exact HP.out
  · have hn1 : (n != 0) = true := by simp [hn]
    have HFN : Hid (RetAp w base RB R a ga (n, s4) cs (cs ++ [C]) F (.returned (.int .i64 n)) w4) := ⟨rfl, a4, ga, F, by rw [if_neg hn]; exact HB4.out, HM4.out, fun g hg => .inl hg⟩
    clear hn
    go_wp2
    go_ret
    exact HFN.out

end Go.Proofs.YtdgpbdedaafdiaaGreat
