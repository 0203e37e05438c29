/-
  The walk of the law BookTears, where both records are good.
-/
import Derived.Test.YtfcjnhcolkpppaaLaw94
namespace Go.Proofs.Ytfcjnhcolkpppaa
open Go.RowKit






theorem Bk.foot0 {w : World} {base RB R : Nat} {a ga : Option Addr} {s : DS} {F : List Nat} (h : Bk w base RB R a ga s [] F) : Bk w base RB R a ga s [] [] := by
  obtain ⟨cap, xs, h1, h2, h3, h4⟩ := h.rows
  obtain rfl : xs = [] := by cases xs with | nil => rfl | cons x xs => simp at h2
  exact ⟨h.dsk, h.b0, ⟨cap, [], h1, h2, h3, by intro x hx; simp at hx⟩, h.free, h.neR, h.neA, h.neG, h.rG, h.aG, h.base⟩

theorem wrt_more (F G : List Nat) (lim : Nat) (h : F.length + G.length ≤ 1048576) : wrt ⟨F, 1048576, false, false, lim⟩ G false = (0, ⟨F ++ G, 1048576, false, false, lim⟩) := by
  unfold wrt
  simp
  omega

theorem wrt_tear (F G : List Nat) (lim : Nat) (h : F.length + G.length ≤ 1048576) : wrt ⟨F, 1048576, false, true, lim⟩ G false = (6, ⟨if G.length ≤ lim then F ++ G else F ++ G.take lim, 1048576, true, true, lim⟩) := by
  unfold wrt
  rw [if_neg (by simp), if_neg (by simp; omega), if_pos rfl]
  simp

/-- What the law knows at the head of a round. -/
structure Tr (w wz ws : World) (RB R : Nat) (a ga : Option Addr) (va : Option Addr) (vc : Nat) (ys : List Rl) (F : List Nat) : Prop where
  own : Rcs ws wz.heap.size va vc ys
  each : ∀ y ∈ ys, GoodX y ∧ y.lo = 0 ∧ y.hi = w.heap.size
  st : St wz ws RB R a ga ⟨frms (ys.map encX), 1048576, false, false, 0⟩ (ys.map encX) F
  ap : ∀ g ∈ blk va, g ∉ bkM RB R a ga ∧ g ∉ F
  fl : ∀ g ∈ F, g < ws.heap.size
  wz : w.heap.size ≤ wz.heap.size

theorem Tr.below {w wz ws ws' : World} {RB R vc : Nat} {a ga va : Option Addr} {ys : List Rl} {F : List Nat} (h : Tr w wz ws RB R a ga va vc ys F) (hb : Below ws.heap.size ws ws') : Tr w wz ws' RB R a ga va vc ys F :=
  ⟨h.own.below hb, h.each, h.st.below hb, h.ap, fun g hg => Nat.lt_of_lt_of_le (h.fl g hg) hb.size, h.wz⟩

/-- One record more has been appended to the book, not yet to the law's list. -/
theorem Tr.wrote {w wz ws ws' : World} {RB R vc : Nat} {a ga va a' ga' : Option Addr} {ys : List Rl} {F F' : List Nat} {s' : DS} {cs' : List (List Nat)} (h : Tr w wz ws RB R a ga va vc ys F) (hk : Bk ws' wz.heap.size RB R a' ga' s' cs' F') (hm : Mv ws ws' (bkM RB R a ga) (bkM RB R a' ga')) (hF : ∀ g ∈ F', g ∈ F ∨ (ws.heap.size ≤ g ∧ g < ws'.heap.size)) :
    St wz ws' RB R a' ga' s' cs' F' ∧ Rcs ws' wz.heap.size va vc ys ∧ (∀ g ∈ blk va, g ∉ bkM RB R a' ga' ∧ g ∉ F') ∧ (∀ g ∈ F', g < ws'.heap.size) := by
  refine ⟨h.st.mv hk hm, h.own.chg hm.chg (fun g hg => (h.ap g hg).1) (fun x hx g hg => .inr ?_), fun g hg => ⟨hm.off (h.ap g hg).1 (h.own.lt hg).2, fun e => ?_⟩, fun g hg => ?_⟩
  · rw [(h.each x hx).2.2]
    exact Nat.le_trans h.wz (h.st.bk.mLt hg).1
  · rcases hF g e with e1 | e1
    · exact (h.ap g hg).2 e1
    · have := (h.own.lt hg).2; omega
  · rcases hF g hg with e1 | e1
    · exact Nat.lt_of_lt_of_le (h.fl g e1) hm.chg.size
    · exact e1.2

/-- The record has been appended to the law's list too. -/
theorem Tr.pushed {w wz w4 w5 : World} {RB R vc vc5 : Nat} {a ga va va5 : Option Addr} {ys : List Rl} {F : List Nat} {x : Rl} {cs' : List (List Nat)} {P : List Nat} (hS : St wz w4 RB R a ga ⟨P, 1048576, false, false, 0⟩ cs' F) (hO : Rcs w4 wz.heap.size va vc ys) (hY : ∀ y ∈ ys, GoodX y ∧ y.lo = 0 ∧ y.hi = w.heap.size) (hA : ∀ g ∈ blk va, g ∉ bkM RB R a ga ∧ g ∉ F) (hF : ∀ g ∈ F, g < w4.heap.size)
    (hwz : w.heap.size ≤ wz.heap.size) (hx : GoodX x ∧ x.lo = 0 ∧ x.hi = w.heap.size) (hP : P = frms (ys.map encX) ++ frm (encX x)) (hcs : cs' = ys.map encX ++ [encX x])
    (hO5 : Rcs w5 wz.heap.size va5 vc5 (ys ++ [x])) (hc : Chg (blk va) w4 w5) (hat : ∀ g ∈ blk va5, g ∈ blk va ∨ w4.heap.size ≤ g) : Tr w wz w5 RB R a ga va5 vc5 (ys ++ [x]) F := by
  have e1 : (ys ++ [x]).map encX = cs' := by rw [hcs, List.map_append]; rfl
  have e2 : frms ((ys ++ [x]).map encX) = P := by rw [hP, List.map_append, List.map_cons, List.map_nil, frms_snoc]
  refine ⟨hO5, fun y hy => ?_, ?_, fun g hg => ?_, fun g hg => Nat.lt_of_lt_of_le (hF g hg) hc.size, hwz⟩
  · rcases List.mem_append.mp hy with hy | hy
    · exact hY y hy
    · rw [List.mem_singleton.mp hy]; exact hx
  · rw [e2, e1]
    exact ⟨hS.bk.apart hc hA, hc.below hS.bel hS.bel.size fun g hg => (hO.lt hg).1⟩
  · rcases hat g hg with h | h
    · exact hA g h
    · exact ⟨fun e => by have := (hS.bk.mLt e).2; omega, fun e => by have := hF g e; omega⟩

theorem rcs_base {w : World} {b b' vc : Nat} {va : Option Addr} {xs : List Rl} (h : Rcs w b va vc xs) (hb : b' ≤ b) : Rcs w b' va vc xs := ⟨owns_base h.own hb, h.rob, h.off⟩

theorem Rcs.mv {w w' : World} {base vc : Nat} {va : Option Addr} {xs : List Rl} {M M' : List Nat} (h : Rcs w base va vc xs) (hm : Mv w w' M M') (hd : ∀ g ∈ M, g ∉ blk va ∧ ∀ x ∈ xs, g < x.lo ∨ x.hi ≤ g) :
    Rcs w' base va vc xs ∧ ∀ g ∈ M', g ∉ blk va ∧ ∀ x ∈ xs, g < x.lo ∨ x.hi ≤ g := by
  refine ⟨h.chg hm.chg (fun g hg e => (hd g e).1 hg) (fun x hx g hg => (hd g hg).2 x hx), fun g hg => ?_⟩
  rcases hm.now g hg with h1 | h1
  · exact hd g h1
  · exact ⟨fun e => by have := (h.lt e).2; omega, fun x hx => .inr (Nat.le_trans (h.off x hx).1 h1)⟩

theorem tear_cases (ys : List Rl) (x : Rl) (K : Nat) (P : List Nat) (cs : List (List Nat)) (rest : List Nat) (hy : ∀ y ∈ ys, GoodX y) (hx : GoodX x) (hP : P = if (frm (encX x)).length ≤ K then frms (ys.map encX) ++ frm (encX x) else frms (ys.map encX) ++ (frm (encX x)).take K) (hv : Vld P cs rest) :
    ∃ zs : List Rl, zs.map encX = cs ∧ (∀ z ∈ zs, GoodX z) ∧ ((zs = ys ++ [x] ∧ (frm (encX x)).length ≤ K) ∨ (zs = ys ∧ ¬ (frm (encX x)).length ≤ K)) := by
  have hall : ∀ z ∈ ys ++ [x], GoodX z := fun z hz => by
    rcases List.mem_append.mp hz with hz | hz
    · exact hy z hz
    · rw [List.mem_singleton.mp hz]; exact hx
  by_cases hw : (frm (encX x)).length ≤ K
  · rw [if_pos hw] at hP
    have e : P = frms ((ys ++ [x]).map encX) := by rw [hP, List.map_append, List.map_cons, List.map_nil, frms_snoc]
    rw [e] at hv
    obtain ⟨rfl, -⟩ := vld_whole _ _ _ (good_encs _ hall) hv
    exact ⟨ys ++ [x], rfl, hall, .inl ⟨rfl, hw⟩⟩
  · rw [if_neg hw] at hP
    rw [hP] at hv
    obtain ⟨rfl, -⟩ := vld_torn _ _ _ _ K (good_encs _ hy) hx.enc.2 (by rw [frm_len] at hw; omega) hv
    exact ⟨ys, rfl, hy, .inr ⟨rfl, hw⟩⟩




set_option maxRecDepth 100000 in
set_option maxHeartbeats 4000000 in
theorem bookTears_yes (a0 : Option Addr) (len0 cap0 : Nat) (m0 : List Rl) (ma ea : Option Addr) (mc ec lm le : Nat) (r : Pr) (ma' ea' : Option Addr) (mc' ec' lm' le' : Nat) (r' : Pr) (N : Nat) (hN : N < 65536) (w : World) (hl0 : m0.length = len0) (hx0 : RcA w a0 cap0 m0) (hox : OldX w.heap.size m0) (h1 : RecAt w ma mc ea ec r) (hlm : r.mem.length = lm) (hle : r.ents.length = le)
    (h2 : RecAt w ma' mc' ea' ec' r') (hlm' : r'.mem.length = lm') (hle' : r'.ents.length = le') (s1 : le ≤ 6 ∧ lm ≤ 40) (s2 : le' ≤ 6 ∧ lm' ≤ 40) (s3 : sndR r = true) (s4 : sndR r' = true) :
    Calls Try.prog 6 #[.slice a0 len0 cap0, .agg #[.int .i64 r.kind, .int .i64 r.epoch, .slice ma lm mc, .int .i64 r.pos, .int .i64 r.last, .slice ea le ec], .agg #[.int .i64 r'.kind, .int .i64 r'.epoch, .slice ma' lm' mc', .int .i64 r'.pos, .int .i64 r'.last, .slice ea' le' ec'], .int .u16 (N : Int)] w fun e w' => e = .returned (.bool true) ∧ Below w.heap.size w w' := by
  have E0 : Hid (Ext w ((w.alloc (.cells #[.int .i64 r.kind, .int .i64 r.epoch, .slice ma lm mc, .int .i64 r.pos, .int .i64 r.last, .slice ea le ec] 36)).alloc (.cells #[.int .i64 r'.kind, .int .i64 r'.epoch, .slice ma' lm' mc', .int .i64 r'.pos, .int .i64 r'.last, .slice ea' le' ec'] 36))) := Ext.trans (below_one _ _) (below_one _ _)
  have FX0 : Hid (Fix _ w.heap.size (w.heap.size + 1) r ma lm mc ea le ec r' ma' lm' mc' ea' le' ec' a0 cap0 m0) := ⟨(r6_new w r ma ea lm mc le ec w.heap.size rfl).below (below_one _ (.cells #[.int .i64 r'.kind, .int .i64 r'.epoch, .slice ma' lm' mc', .int .i64 r'.pos, .int .i64 r'.last, .slice ea' le' ec'] 36)), r6_new (w.alloc (.cells #[.int .i64 r.kind, .int .i64 r.epoch, .slice ma lm mc, .int .i64 r.pos, .int .i64 r.last, .slice ea le ec] 36)) r' ma' ea' lm' mc' le' ec' (w.heap.size + 1) (by simp), h1.below E0.out, h2.below E0.out, hx0.below E0.out⟩
  have HLM := Lib.hid hlm
  have HLE := Lib.hid hle
  have HLM' := Lib.hid hlm'
  have HLE' := Lib.hid hle'
  have HS3 := Lib.hid s3
  have HS4 := Lib.hid s4
  have HL0 := Lib.hid hl0
  have HOX := Lib.hid hox
  have HROB := Lib.hid hx0.rob
  have hl0m : len0 ≤ maxLen := by have := hx0.le; have := hx0.max; omega
  unfold maxLen at hl0m
  have HCR : Hid ((encR r).length ≤ 2332) := encR_small6 r s3 (by rw [hle]; exact s1.1)
  have HCN : Hid ((encR r').length ≤ 2332) := encR_small6 r' s4 (by rw [hle']; exact s2.1)
  have HWF : Hid (r.Wf ∧ r'.Wf) := ⟨h1.wf, h2.wf⟩
  have HR0 := Lib.hid h1
  have HR0' := Lib.hid h2
  clear h1 h2 hlm hle hlm' hle' s3 s4 hl0 hox hx0
  go_enter Try.func6, Try.ntmps6
  go_upto_region 1 with fail
  generalize ((w.alloc (.cells #[.int .i64 r.kind, .int .i64 r.epoch, .slice ma lm mc, .int .i64 r.pos, .int .i64 r.last, .slice ea le ec] 36)).alloc (.cells #[.int .i64 r'.kind, .int .i64 r'.epoch, .slice ma' lm' mc', .int .i64 r'.pos, .int .i64 r'.last, .slice ea' le' ec'] 36)) = w0 at *
  have HB5 := Lib.hid FX0.out.b5
  have x0 := HB5.out.c0
  have x1 := HB5.out.c1
  have x2 := HB5.out.c2
  have x3 := HB5.out.c3
  have x4 := HB5.out.c4
  have x5 := HB5.out.c5
  go_wp2_with fail
  refine (small_any _ _ _ _ lm le _ _ _ _ _).mono ?_
  rintro e w1 ⟨rfl, hb1⟩
  have E1 := Lib.hid (E0.out.trans hb1)
  have FX1 := Lib.hid (FX0.out.below hb1)
  clear x0 x1 x2 x3 x4 x5
  clear hb1 HB5 FX0 E0
  rw [small_yes s1]
  have HB6 := Lib.hid FX1.out.b6
  have x0 := HB6.out.c0
  have x1 := HB6.out.c1
  have x2 := HB6.out.c2
  have x3 := HB6.out.c3
  have x4 := HB6.out.c4
  have x5 := HB6.out.c5
  go_wp2_with fail
  refine (small_any _ _ _ _ lm' le' _ _ _ _ _).mono ?_
  rintro e w2 ⟨rfl, hb2⟩
  have E2 := Lib.hid (E1.out.trans hb2)
  have FX2 := Lib.hid (FX1.out.below hb2)
  clear x0 x1 x2 x3 x4 x5
  clear hb2 HB6 FX1 E1
  rw [small_yes s2]
  have HB5 := Lib.hid FX2.out.b5
  have x0 := HB5.out.c0
  have x1 := HB5.out.c1
  have x2 := HB5.out.c2
  have x3 := HB5.out.c3
  have x4 := HB5.out.c4
  have x5 := HB5.out.c5
  go_wp2_with fail
  refine (refRec_any _ _ _ _ _ _ r _ FX2.out.ok HLM.out HLE.out).mono ?_
  rintro e w3 ⟨rfl, hb3⟩
  have E3 := Lib.hid (E2.out.trans hb3)
  have FX3 := Lib.hid (FX2.out.below hb3)
  clear x0 x1 x2 x3 x4 x5
  clear hb3 HB5 FX2 E2
  rw [HS3.out]
  have HB6 := Lib.hid FX3.out.b6
  have x0 := HB6.out.c0
  have x1 := HB6.out.c1
  have x2 := HB6.out.c2
  have x3 := HB6.out.c3
  have x4 := HB6.out.c4
  have x5 := HB6.out.c5
  go_wp2_with fail
  refine (refRec_any _ _ _ _ _ _ r' _ FX3.out.ok' HLM'.out HLE'.out).mono ?_
  rintro e wz ⟨rfl, hb4⟩
  have EZ := Lib.hid (E3.out.trans hb4)
  have FX := Lib.hid (FX3.out.below hb4)
  clear x0 x1 x2 x3 x4 x5
  clear hb4 HB6 FX3 E3
  rw [HS4.out]
  go_wp2_with fail
  refine (disk_new 1048576 _).mono ?_
  rintro e w6 ⟨R, rfl, -, hd6, hb6⟩
  rw [show roomOf 1048576 = 1048576 by decide] at hd6
  have HD6 := Lib.hid hd6
  have E6 : Hid (Ext wz w6) := hb6
  clear hd6 hb6
  go_wp2_with fail
  refine (bkOpen_any wz.heap.size R none _ _ HD6.out rfl rfl).mono ?_
  rintro e w7 ⟨RB, a7, ga7, cs7, rest7, F7, rfl, hv7, hk7, hm7⟩
  obtain ⟨rfl, -⟩ := vld_none _ _ _ hv7 isF_nil
  have hk7' : Bk w7 wz.heap.size RB R a7 ga7 ⟨[], 1048576, false, false, 0⟩ [] [] := Bk.foot0 hk7
  have H7 : Hid (St wz w7 RB R a7 ga7 ⟨[], 1048576, false, false, 0⟩ [] []) := ⟨hk7', (hm7.below E6.out fun g hg => by simp [blk] at hg; subst hg; exact HD6.out.base).1⟩
  clear hk7 hk7' hm7 hv7 HD6 E6
  have hl8 := below_one w7 (.cells #[] 36)
  have HT8 : Hid (Tr w wz (w7.alloc (.cells #[] 36)) RB R a7 ga7 (some ⟨w7.heap.size, 0, none⟩) 0 [] []) := ⟨rcs_lit w7 wz.heap.size w7.heap.size rfl H7.out.bel.size, by intro y hy; simp at hy, H7.out.below hl8, fun g hg => by
    simp [blk] at hg
    subst hg
    exact ⟨fun e => by have := (H7.out.bk.mLt e).2; omega, by simp⟩, by simp, EZ.out.size⟩
  clear hl8 H7
  go_wp2_with fail
  go_loopw [12, 13] (fun v i ws => ∃ (k n vc : Nat) (va a ga : Option Addr) (ys : List Rl) (F : List Nat), k ≤ len0 ∧ k ≤ 8 ∧ n ≤ k ∧ i = .int .i64 k ∧ v = .slice va n vc ∧ Hid (ys.length = n) ∧ Hid (Tr w wz ws RB R a ga va vc ys F)) (fun _ i _ => len0 - (intOf i).toNat)
  case atStart => exact ⟨0, 0, 0, _, _, _, [], [], Nat.zero_le _, Nat.zero_le _, Nat.le_refl _, rfl, rfl, rfl, HT8⟩
  case round =>
    obtain ⟨k, n, vc, va, a, ga, ys, F, hk, hk8, hnk, rfl, rfl, HN, HT⟩ := hrel
    by_cases hlt : k < len0 ∧ k < 8
    · have j0 : (0 : Int) ≤ (k : Int) := by omega
      have j1 : (k : Int) < (len0 : Int) := by omega
      have j2 : decide ((k : Int) < (len0 : Int)) = true := by simp; omega
      have j3 : decide ((k : Int) < 8) = true := by simp; omega
      have hlt2 := hlt.2
      have hlt1 := hlt.1
      obtain ⟨b, off, e0, hc, hok⟩ := FX.out.list.one k (by rw [HL0.out]; exact hlt1)
      subst e0
      have HMEM := Lib.hid (HOX.out _ (getD_mem m0 k rl0 (by rw [HL0.out]; exact hlt1)))
      have HRBX := Lib.hid ((HROB.out _ (getD_mem m0 k rl0 (by rw [HL0.out]; exact hlt1))).chg (gs := []) (Chg.of_below (Ext.trans EZ.out HT.out.st.bel)) (by simp))
      generalize m0.getD k rl0 = x at *
      obtain ⟨p, pma, pmc, pea, pec, lo, hi⟩ := x
      dsimp only at HMEM HRBX hc
      have HOKZ : Hid (RecAt wz pma pmc pea pec p) := hok
      obtain ⟨plm, hplm⟩ : ∃ q, p.mem.length = q := ⟨_, rfl⟩
      obtain ⟨ple, hple⟩ : ∃ q, p.ents.length = q := ⟨_, rfl⟩
      rw [hplm, hple] at hc
      have HPLM := Lib.hid hplm
      have HPLE := Lib.hid hple
      have HCZ := Lib.hid hc
      have HC := Lib.hid (hc.below HT.out.st.bel)
      clear hc hok hplm hple hlt
      have c0 := HC.out.c0
      have c1 := HC.out.c1
      have c2 := HC.out.c2
      have c3 := HC.out.c3
      have c4 := HC.out.c4
      have c5 := HC.out.c5
      go_wp2_with fail
      refine (small_any _ _ _ _ plm ple _ _ _ _ _).mono ?_
      rintro e w2 ⟨rfl, hb2⟩
      have HT2 := Lib.hid (HT.out.below hb2)
      have HC2 := Lib.hid (HC.out.below hb2)
      have HOK2 := Lib.hid (HOKZ.out.below HT2.out.st.bel)
      have HRBX2 := Lib.hid (HRBX.out.chg (gs := []) (Chg.of_below hb2) (by simp))
      clear c0 c1 c2 c3 c4 c5
      clear hb2 HC HT HRBX
      have c0 := HC2.out.c0
      have c1 := HC2.out.c1
      have c2 := HC2.out.c2
      have c3 := HC2.out.c3
      have c4 := HC2.out.c4
      have c5 := HC2.out.c5
      by_cases hsm : ple ≤ 6 ∧ plm ≤ 40
      · rw [small_yes hsm]
        have hle6 := hsm.1
        clear hsm
        cases hs : sndR p with
        | false =>
          have HNO := Lib.hid hs
          clear hs
          go_wp2_with fail
          refine (bkAppend_no _ _ _ _ _ _ _ p _ HOK2.out HPLM.out HPLE.out HNO.out).mono ?_
          rintro e w3 ⟨rfl, hb3⟩
          have HT3 := Lib.hid (HT2.out.below hb3)
          clear c0 c1 c2 c3 c4 c5
          clear hb3
          go_wp2_with fail
          go_roundw
          case rel => exact ⟨k + 1, n, vc, va, a, ga, ys, F, by omega, by omega, by omega, by go_num, rfl, HN, HT3⟩
          case measure => simp [intOf]; omega
        | true =>
          have HGX : Hid (GoodX ⟨p, pma, pmc, pea, pec, lo, hi⟩) := ⟨hs, by show p.ents.length ≤ 6; rw [HPLE.out]; exact hle6, HOK2.out.wf⟩
          have HYES := Lib.hid hs
          have HPL : Hid ((encR p).length ≤ 2332) := HGX.out.len
          have HFL : Hid ((frms (ys.map encX)).length ≤ 18720) := by have := good_frms ys (fun y hy => (HT2.out.each y hy).1); rw [HN.out] at this; show _ ≤ _; omega
          have HW : Hid (wrt ⟨frms (ys.map encX), 1048576, false, false, 0⟩ (frm (encR p)) false = (0, ⟨frms (ys.map encX) ++ frm (encR p), 1048576, false, false, 0⟩)) := wrt_more _ _ _ (by rw [frm_len]; have := HFL.out; have := HPL.out; omega)
          have HCL : Hid ((ys.map encX).length ≤ 100000000) := by show _ ≤ _; rw [List.length_map, HN.out]; omega
          clear hs
          go_wp2_with fail
          refine (bkAppend_yes wz.heap.size RB R a ga _ (ys.map encX) F _ _ _ _ _ _ p _ HT2.out.st.bk HCL.out HOK2.out HPLM.out HPLE.out HYES.out).mono ?_
          rw [HW.out]
          rintro e w3 ⟨rfl, a3, ga3, F3, hk3, hm3, hF3⟩
          rw [if_pos rfl] at hk3
          have h3 := HT2.out.wrote hk3 hm3 hF3
          have HST3 := Lib.hid h3.1
          have HO3 := Lib.hid h3.2.1
          have HA3 := Lib.hid h3.2.2
          have HRBX3 := Lib.hid (HRBX2.out.chg hm3.chg (fun g hg => .inr (by rw [HMEM.out.2]; exact Nat.le_trans HT2.out.wz (HT2.out.st.bk.mLt hg).1)))
          have HC3 := Lib.hid (HCZ.out.below HST3.out.bel)
          clear c0 c1 c2 c3 c4 c5
          clear hk3 hm3 hF3 h3 HC2 HOK2 HRBX2
          have c0 := HC3.out.c0
          have c1 := HC3.out.c1
          have c2 := HC3.out.c2
          have c3 := HC3.out.c3
          have c4 := HC3.out.c4
          have c5 := HC3.out.c5
          have hbl := below_one w3 (.cells #[.int .i64 p.kind, .int .i64 p.epoch, .slice pma plm pmc, .int .i64 p.pos, .int .i64 p.last, .slice pea ple pec] 36)
          have HA4 := Lib.hid (rca_box p pma pea pmc pec lo hi plm ple w3.heap.size HPLM.out HPLE.out rfl HRBX3.out)
          have HO4 := Lib.hid (HO3.out.below hbl)
          have HST4 := Lib.hid (HST3.out.below hbl)
          have HA34 : Hid (∀ g ∈ F3, g < (w3.alloc (.cells #[.int .i64 p.kind, .int .i64 p.epoch, .slice pma plm pmc, .int .i64 p.pos, .int .i64 p.last, .slice pea ple pec] 36)).heap.size) := fun g hg => Nat.lt_of_lt_of_le (HA3.out.2 g hg) hbl.size
          have hml := HMEM.out
          have hzs : hi ≤ wz.heap.size := by rw [hml.2]; exact EZ.out.size
          clear hbl
          go_wp2_with (at_builtin; refine wpList_appRec rfl (.tmp 77) (.tmp 82) rfl wz.heap.size va vc n ys HN.out rfl HO4.out _ 1 1 [⟨p, pma, pmc, pea, pec, lo, hi⟩] rfl rfl HA4.out (by omega) HST4.out.bel.size (fun y hy => by rw [List.mem_singleton.mp hy]; exact ⟨Nat.le_trans hzs HST4.out.bel.size, fun g hg => .inr (Nat.le_trans hzs (HO4.out.lt hg).1)⟩) ?_; intro va5 vc5 w5 ho5 chg5 hat5; have HT5 := Lib.hid (Tr.pushed HST4.out HO4.out HT2.out.each HA3.out.1 HA34.out HT2.out.wz ⟨HGX.out, HMEM.out⟩ rfl rfl ho5 chg5 hat5); clear ho5 chg5 hat5)
          have HN5 : Hid ((ys ++ [(⟨p, pma, pmc, pea, pec, lo, hi⟩ : Rl)]).length = n + 1) := by show _ = _; rw [List.length_append, HN.out]; rfl
          go_roundw
          case rel => exact ⟨k + 1, n + 1, vc5, va5, a3, ga3, _, F3, by omega, by omega, by omega, by go_num, rfl, HN5, HT5⟩
          case measure => simp [intOf]; omega
      · rw [small_no hsm]
        clear hsm
        go_wp2_with fail
        go_roundw
        case rel => exact ⟨k + 1, n, vc, va, a, ga, ys, F, by omega, by omega, by omega, by go_num, rfl, HN, HT2⟩
        case measure => simp [intOf]; omega
    · have t : decide ((k : Int) < (len0 : Int)) = false ∧ decide (k < len0) = false ∨ decide ((k : Int) < (len0 : Int)) = true ∧ decide (k < len0) = true ∧ decide ((k : Int) < 8) = false := by simp; omega
      have hn8 : n ≤ 8 := by omega
      rcases t with ⟨t1, t2⟩ | ⟨t1, t2, t3⟩
      · skip
        obtain ⟨K, hK⟩ : ∃ K : Nat, (N : Int) % 600 = (K : Int) := ⟨N % 600, by omega⟩
        have HE0L : Hid ((frms (ys.map encX)).length ≤ 18720) := by have := good_frms ys (fun y hy => (HT.out.each y hy).1); rw [HN.out] at this; show _ ≤ _; omega
        go_wp2_with fail
        refine (disk_tear wz.heap.size R a _ _ _ HT.out.st.bk.dsk).mono ?_
        rw [show ((K : Nat) : Int).toNat = K from rfl]
        rintro e w8 ⟨rfl, hd8, hg8⟩
        have h8 := HT.out.st.done hd8 hg8
        have H8 : Hid (St wz w8 RB R a ga ⟨frms (ys.map encX), 1048576, false, true, K⟩ (ys.map encX) F) := h8.1
        have HO8 := Lib.hid (HT.out.own.chg h8.2.chg (fun g hg => (HT.out.ap g hg).1) (fun x hx g hg => .inr (by rw [(HT.out.each x hx).2.2]; exact Nat.le_trans HT.out.wz (HT.out.st.bk.mLt hg).1)))
        have HA8 : Hid (∀ g ∈ blk va, g ∉ bkM RB R a ga) := fun g hg => (HT.out.ap g hg).1
        have HYS := Lib.hid HT.out.each
        have HWZ := Lib.hid HT.out.wz
        clear hd8 hg8 h8 HT
        have HCL : Hid ((ys.map encX).length ≤ 100000000) := by show _ ≤ _; rw [List.length_map, HN.out]; omega
        have HB5 := Lib.hid (FX.out.b5.below H8.out.bel)
        have x0 := HB5.out.c0
        have x1 := HB5.out.c1
        have x2 := HB5.out.c2
        have x3 := HB5.out.c3
        have x4 := HB5.out.c4
        have x5 := HB5.out.c5
        go_wp2_with fail
        obtain ⟨P, hP⟩ : ∃ P, P = (if (frm (encR r)).length ≤ K then frms (ys.map encX) ++ frm (encR r) else frms (ys.map encX) ++ (frm (encR r)).take K) := ⟨_, rfl⟩
        have HP := Lib.hid hP
        refine (bkAppend_yes wz.heap.size RB R a ga _ (ys.map encX) F _ _ _ _ _ _ r _ H8.out.bk HCL.out (FX.out.ok.below H8.out.bel) HLM.out HLE.out HS3.out).mono ?_
        rw [wrt_tear _ _ _ (by rw [frm_len]; have := HE0L.out; have := HCR.out; omega), ← hP]
        rintro e w9 ⟨rfl, a9, ga9, F9, hk9, hm9, -⟩
        have hk9' : Bk w9 wz.heap.size RB R a9 ga9 ⟨P, 1048576, true, true, K⟩ (ys.map encX) F9 := hk9
        have H9 := Lib.hid (H8.out.mv hk9' hm9)
        have HO9 := Lib.hid (HO8.out.chg hm9.chg HA8.out (fun x hx g hg => .inr (by rw [(HYS.out x hx).2.2]; exact Nat.le_trans HWZ.out (H8.out.bk.mLt hg).1)))
        have HA9 : Hid (∀ g ∈ blk va, g ∉ bkM RB R a9 ga9) := fun g hg => hm9.off (HA8.out g hg) (HO8.out.lt hg).2
        clear x0 x1 x2 x3 x4 x5
        clear hk9 hk9' hm9 H8 HO8 HA8 HB5 hP
        go_wp2_with fail
        refine (disk_start wz.heap.size R a9 _ _ H9.out.bk.dsk).mono ?_
        rintro e w10 ⟨rfl, hd10, hg10⟩
        have h10 := H9.out.done hd10 hg10
        have HD10 : Hid (Dsk w10 wz.heap.size R a9 ⟨P, 1048576, false, false, K⟩) := hd10
        have H10 := Lib.hid h10.1
        have HO10 := Lib.hid (HO9.out.chg h10.2.chg HA9.out (fun x hx g hg => .inr (by rw [(HYS.out x hx).2.2]; exact Nat.le_trans HWZ.out (H9.out.bk.mLt hg).1)))
        clear h10 hd10 hg10 H9 HO9
        go_wp2_with fail
        refine (bkOpen_any wz.heap.size R a9 _ _ HD10.out rfl rfl).mono ?_
        rintro e w11 ⟨RB2, a11, ga11, cs, rest, F11, rfl, hv11, hk11, hm11⟩
        have hm11' := hm11.opened (RB := RB) (ga := ga9)
        have H11 : Hid (St wz w11 RB2 R a11 ga11 ⟨frms cs, 1048576, false, false, K⟩ cs F11) := H10.out.mv hk11 hm11'
        have HO11 := Lib.hid (HO10.out.chg hm11'.chg HA9.out (fun x hx g hg => .inr (by rw [(HYS.out x hx).2.2]; exact Nat.le_trans HWZ.out (H10.out.bk.mLt hg).1)))
        have HA11 : Hid (∀ g ∈ blk va, g ∉ bkM RB2 R a11 ga11) := fun g hg => hm11'.off (HA9.out g hg) (HO10.out.lt hg).2
        have HXG : Hid (GoodX ⟨r, ma, mc, ea, ec, 0, w.heap.size⟩) := ⟨HS3.out, by show r.ents.length ≤ 6; rw [HLE.out]; exact s1.1, HWF.out.1⟩
        have HNG : Hid (GoodX ⟨r', ma', mc', ea', ec', 0, w.heap.size⟩) := ⟨HS4.out, by show r'.ents.length ≤ 6; rw [HLE'.out]; exact s2.1, HWF.out.2⟩
        have hz := tear_cases ys ⟨r, ma, mc, ea, ec, 0, w.heap.size⟩ K P cs rest (fun y hy => (HYS.out y hy).1) HXG.out HP.out hv11
        have HZ := Lib.hid hz
        clear hz hk11 hm11 hm11' hv11 H10 HO10 HA9 HD10
        go_upto_region 20 with fail
        go_cut [16] (fun s wx => ∃ (vw : Option Addr) (vwc : Nat), s = .slice vw (n + 1) vwc ∧ Hid (RcA wx vw vwc (ys ++ [(⟨r, ma, mc, ea, ec, 0, w.heap.size⟩ : Rl)])) ∧ Hid (Ext w11 wx))
        case first =>
          rename_i JJ KK hJJ hKK
          refine wp_region_S2 (Ext w11.drew) (by kernel_rfl) ?_
          have hSw := Ext.refl w11.drew
          have EW : Hid (Ext w11 w11.drew) := Below.drew (Below.refl _ w11)
          have HYW := Lib.hid (HO11.out.at_.below EW.out)
          have HXW : Hid (Rob 0 w.heap.size w11.drew (Rl.ok ⟨r, ma, mc, ea, ec, 0, w.heap.size⟩)) := rob_old (fun w' hb => RecAt.below HR0.out hb) (Ext.trans EZ.out (Ext.trans H11.out.bel EW.out))
          have HB5 := Lib.hid (FX.out.b5.below (Ext.trans H11.out.bel EW.out))
          have HSZ : Hid (w.heap.size ≤ w11.drew.heap.size) := Nat.le_trans HWZ.out (Ext.trans H11.out.bel EW.out).size
          generalize w11.drew = W at *
          have HW0' : Hid (∃ L, W.heap.size = L) := ⟨_, rfl⟩
          obtain ⟨L0, hL0⟩ := HW0'.out
          have HW0 := Lib.hid hL0
          have HYH : Hid (∀ y ∈ ys, y.hi ≤ L0) := fun y hy => by rw [(HYS.out y hy).2.2, ← hL0]; exact HSZ.out
          rw [hL0] at HSZ
          have HWB := EW
          have EW0 := Lib.hid (Ext.refl W)
          have HY0 := HYW
          have HX0 := HXW
          clear EW HYW HXW hL0 HW0'
          refine wpAnyH_tkS2 (i := 1) 107 (v := ?_) rfl rfl (by kernel_rfl) (by kernel_rfl) (by kernel_rfl) (by rfl) hSw (fun wq hwq => ?_) ?_
          rotate_left
          · (have hx := True.intro; go_simp <;> with_reducible rfl)
          simp only [List.setIfInBounds_toArray, List.set_cons_zero, List.set_cons_succ]
          refine wpAnyH_tkS2 (i := 3) 109 (v := ?_) rfl rfl (by kernel_rfl) (by kernel_rfl) (by kernel_rfl) (by rfl) hSw (fun wq hwq => ?_) ?_
          rotate_left
          · (have hx := (HB5.out).below hwq; have x0 := hx.c0; have x1 := hx.c1; have x2 := hx.c2; have x3 := hx.c3; have x4 := hx.c4; have x5 := hx.c5; go_simp <;> with_reducible rfl)
          simp only [List.setIfInBounds_toArray, List.set_cons_zero, List.set_cons_succ]
          refine wpAnyH_twoS2 (i := 0) (j := 4) rfl rfl (by kernel_rfl) (by rfl) (by rfl) (fun K hK => ?_) (fun K hK => ?_)
          · go_simp
            rw [HW0.out]
            have HR1 := Lib.hid (rcs_lit W L0 L0 (HW0.out) (by have := EW0.out.size; have := HW0.out; omega))
            have hb := below_one W (.cells #[] 36)
            have HY1 := Lib.hid (HY0.out.below hb)
            have HX1 := Lib.hid (HX0.out.chg (gs := []) (Chg.of_below hb) (by simp))
            have EW1 := Lib.hid (Ext.trans EW0.out hb)
            refine hK.out _ _ (Ext W) (fun _ h => h) (EW1.out) ?_
            clear hK K
            clear hb
            have hSw := EW1.out
            have HLT : Hid (L0 < (W.alloc (.cells #[] 36)).heap.size) := by show _ < _; rw [← HW0.out]; simp
            generalize (W.alloc (.cells #[] 36)) = W1 at *
            refine wpAnyH_twoS2 (i := 2) (j := 4) rfl rfl (by kernel_rfl) (by rfl) (by rfl) (fun K hK => ?_) (fun K hK => ?_)
            · skip
              refine wp_appRec (.tmp 106) (.tmp 107) rfl L0 (some ⟨L0, 0, none⟩) 0 0 [] rfl rfl HR1.out va n vc ys HN.out rfl HY1.out (by omega) (by have := EW1.out.size; have := HW0.out; omega) (fun y hy => by have h1 := HYH.out y hy; have h2 := EW1.out.size; have h3 := HW0.out; have h4 := (HR1.out.lt (g := L0) (by simp [blk])).1; exact ⟨by omega, fun g hg => by simp [blk] at hg; subst hg; right; omega⟩) ?_
              intro va2 vc2 w2 ho chg hat
              rw [List.nil_append] at ho
              rw [Nat.zero_add]
              have HO2 := Lib.hid ho
              have CH2 := Lib.hid chg
              have EW2 : Hid (Ext W w2) := chg.below EW1.out EW1.out.size (fun g hg => by have h1 := (HR1.out.lt hg).1; have h2 := HW0.out; omega)
              have HX2 := Lib.hid (HX1.out.chg chg (fun g hg => .inr (by have h1 := (HR1.out.lt hg).1; have h2 := HSZ.out; omega)))
              clear ho chg hat
              go_simp
              refine hK.out _ _ (Ext W) (fun _ h => h) (EW2.out) ?_
              clear hK K
              have hSw := EW2.out
              refine wpAnyH_oneS2 (i := 4) rfl (by kernel_rfl) (by rfl) (fun K hK => ?_)
              go_simp
              have HY2 := Lib.hid HO2.out.at_
              have HA3 := Lib.hid (rca_box r ma ea mc ec 0 w.heap.size lm le w2.heap.size HLM.out HLE.out (rfl) HX2.out)
              have hb := below_one w2 (.cells #[.int .i64 r.kind, .int .i64 r.epoch, .slice ma lm mc, .int .i64 r.pos, .int .i64 r.last, .slice ea le ec] 36)
              have HY3 := Lib.hid (HY2.out.below hb)
              have HX3 := Lib.hid (HX2.out.chg (gs := []) (Chg.of_below hb) (by simp))
              have EW3 := Lib.hid (Ext.trans EW2.out hb)
              refine hK.out _ _ (Ext W) (fun _ h => h) (EW3.out) ?_
              clear hK K
              clear hb
              have hSw := EW3.out
              have HO3 := Lib.hid (HO2.out.below (below_one w2 (.cells #[.int .i64 r.kind, .int .i64 r.epoch, .slice ma lm mc, .int .i64 r.pos, .int .i64 r.last, .slice ea le ec] 36)))
              refine wpAnyH_oneS2 (i := 5) rfl (by kernel_rfl) (by rfl) (fun K hK => ?_)
              refine wp_appRec (.tmp 108) (.tmp 110) rfl L0 va2 vc2 n ys HN.out rfl HO3.out (some ⟨w2.heap.size, 0, none⟩) 1 1 [⟨r, ma, mc, ea, ec, 0, w.heap.size⟩] rfl rfl HA3.out (by omega) (by have := EW3.out.size; have := HW0.out; omega) (fun y hy => by rw [List.mem_singleton.mp hy]; have h2 := EW3.out.size; have h3 := HW0.out; have h5 := HSZ.out; exact ⟨by show w.heap.size ≤ _; omega, fun g hg => .inr (by have h4 := (HO3.out.lt hg).1; show w.heap.size ≤ g; omega)⟩) ?_
              intro va4 vc4 w4 ho chg hat
              have HQ4 := Lib.hid ho.at_
              have HN4 : Hid (∀ g ∈ blk va4, L0 ≤ g ∧ g < w4.heap.size) := fun g hg => ho.lt hg
              have EW4 : Hid (Ext W w4) := chg.below EW3.out EW3.out.size (fun g hg => by have h1 := (HO3.out.lt hg).1; have h2 := HW0.out; omega)
              clear ho chg hat
              go_simp
              refine hK.out _ _ (Ext W) (fun _ h => h) (EW4.out) ?_
              clear hK K
              have hSw := EW4.out
              refine wpAnyH_tkS2 (i := 6) 16 (v := ?_) rfl rfl (by kernel_rfl) (by kernel_rfl) (by kernel_rfl) (by rfl) hSw (fun wq hwq => ?_) ?_
              rotate_left
              · (have hx := True.intro; go_simp <;> with_reducible rfl)
              simp only [List.setIfInBounds_toArray, List.set_cons_zero, List.set_cons_succ]
              refine wpAnyH_done (by kernel_rfl) ?_ _
              refine NoPanic.normal ?_
              have EXF := Lib.hid (Ext.trans HWB.out EW4.out)
              refine hKK _ _ (Met.intro (hJJ _ _ ?_))
              (repeat apply Exists.intro)
              exact ⟨⟨va4, vc4, rfl, HQ4, EXF⟩, rfl⟩
            · go_simp
              have HA2 := Lib.hid (rca_box r ma ea mc ec 0 w.heap.size lm le W1.heap.size HLM.out HLE.out (rfl) HX1.out)
              have hb := below_one W1 (.cells #[.int .i64 r.kind, .int .i64 r.epoch, .slice ma lm mc, .int .i64 r.pos, .int .i64 r.last, .slice ea le ec] 36)
              have HY2 := Lib.hid (HY1.out.below hb)
              have HX2 := Lib.hid (HX1.out.chg (gs := []) (Chg.of_below hb) (by simp))
              have EW2 := Lib.hid (Ext.trans EW1.out hb)
              refine hK.out _ _ (Ext W) (fun _ h => h) (EW2.out) ?_
              clear hK K
              clear hb
              have hSw := EW2.out
              have HR2 := Lib.hid (HR1.out.below (below_one W1 (.cells #[.int .i64 r.kind, .int .i64 r.epoch, .slice ma lm mc, .int .i64 r.pos, .int .i64 r.last, .slice ea le ec] 36)))
              generalize hW2 : (W1.alloc (.cells #[.int .i64 r.kind, .int .i64 r.epoch, .slice ma lm mc, .int .i64 r.pos, .int .i64 r.last, .slice ea le ec] 36)) = W2 at *
              refine wpAnyH_oneS2 (i := 2) rfl (by kernel_rfl) (by rfl) (fun K hK => ?_)
              refine wp_appRec (.tmp 106) (.tmp 107) rfl L0 (some ⟨L0, 0, none⟩) 0 0 [] rfl rfl HR2.out va n vc ys HN.out rfl HY2.out (by omega) (by have := EW2.out.size; have := HW0.out; omega) (fun y hy => by have h1 := HYH.out y hy; have h2 := EW2.out.size; have h3 := HW0.out; have h4 := (HR2.out.lt (g := L0) (by simp [blk])).1; exact ⟨by omega, fun g hg => by simp [blk] at hg; subst hg; right; omega⟩) ?_
              intro va3 vc3 w3 ho chg hat
              rw [List.nil_append] at ho
              rw [Nat.zero_add]
              have HO3 := Lib.hid ho
              have CH3 := Lib.hid chg
              have EW3 : Hid (Ext W w3) := chg.below EW2.out EW2.out.size (fun g hg => by have h1 := (HR2.out.lt hg).1; have h2 := HW0.out; omega)
              have HX3 := Lib.hid (HX2.out.chg chg (fun g hg => .inr (by have h1 := (HR2.out.lt hg).1; have h2 := HSZ.out; omega)))
              clear ho chg hat
              go_simp
              refine hK.out _ _ (Ext W) (fun _ h => h) (EW3.out) ?_
              clear hK K
              have hSw := EW3.out
              have HA3 := Lib.hid (HA2.out.chg CH3.out (by have := HLT.out; simp [blk]; omega) (fun x hx g hg => by rw [List.mem_singleton.mp hx]; have h1 := HSZ.out; simp [blk] at hg; subst hg; right; exact h1))
              refine wpAnyH_oneS2 (i := 5) rfl (by kernel_rfl) (by rfl) (fun K hK => ?_)
              refine wp_appRec (.tmp 108) (.tmp 110) rfl L0 va3 vc3 n ys HN.out rfl HO3.out (some ⟨W1.heap.size, 0, none⟩) 1 1 [⟨r, ma, mc, ea, ec, 0, w.heap.size⟩] rfl rfl HA3.out (by omega) (by have := EW3.out.size; have := HW0.out; omega) (fun y hy => by rw [List.mem_singleton.mp hy]; have h2 := EW3.out.size; have h3 := HW0.out; have h5 := HSZ.out; exact ⟨by show w.heap.size ≤ _; omega, fun g hg => .inr (by have h4 := (HO3.out.lt hg).1; show w.heap.size ≤ g; omega)⟩) ?_
              intro va4 vc4 w4 ho chg hat
              have HQ4 := Lib.hid ho.at_
              have HN4 : Hid (∀ g ∈ blk va4, L0 ≤ g ∧ g < w4.heap.size) := fun g hg => ho.lt hg
              have EW4 : Hid (Ext W w4) := chg.below EW3.out EW3.out.size (fun g hg => by have h1 := (HO3.out.lt hg).1; have h2 := HW0.out; omega)
              clear ho chg hat
              go_simp
              refine hK.out _ _ (Ext W) (fun _ h => h) (EW4.out) ?_
              clear hK K
              have hSw := EW4.out
              refine wpAnyH_tkS2 (i := 6) 16 (v := ?_) rfl rfl (by kernel_rfl) (by kernel_rfl) (by kernel_rfl) (by rfl) hSw (fun wq hwq => ?_) ?_
              rotate_left
              · (have hx := True.intro; go_simp <;> with_reducible rfl)
              simp only [List.setIfInBounds_toArray, List.set_cons_zero, List.set_cons_succ]
              refine wpAnyH_done (by kernel_rfl) ?_ _
              refine NoPanic.normal ?_
              have EXF := Lib.hid (Ext.trans HWB.out EW4.out)
              refine hKK _ _ (Met.intro (hJJ _ _ ?_))
              (repeat apply Exists.intro)
              exact ⟨⟨va4, vc4, rfl, HQ4, EXF⟩, rfl⟩
          · go_simp
            rw [HW0.out]
            have HA1 := Lib.hid (rca_box r ma ea mc ec 0 w.heap.size lm le L0 HLM.out HLE.out (HW0.out) HX0.out)
            have hb := below_one W (.cells #[.int .i64 r.kind, .int .i64 r.epoch, .slice ma lm mc, .int .i64 r.pos, .int .i64 r.last, .slice ea le ec] 36)
            have HY1 := Lib.hid (HY0.out.below hb)
            have HX1 := Lib.hid (HX0.out.chg (gs := []) (Chg.of_below hb) (by simp))
            have EW1 := Lib.hid (Ext.trans EW0.out hb)
            refine hK.out _ _ (Ext W) (fun _ h => h) (EW1.out) ?_
            clear hK K
            clear hb
            have hSw := EW1.out
            have HLT : Hid (L0 < (W.alloc (.cells #[.int .i64 r.kind, .int .i64 r.epoch, .slice ma lm mc, .int .i64 r.pos, .int .i64 r.last, .slice ea le ec] 36)).heap.size) := by show _ < _; rw [← HW0.out]; simp
            generalize (W.alloc (.cells #[.int .i64 r.kind, .int .i64 r.epoch, .slice ma lm mc, .int .i64 r.pos, .int .i64 r.last, .slice ea le ec] 36)) = W1 at *
            refine wpAnyH_oneS2 (i := 0) rfl (by kernel_rfl) (by rfl) (fun K hK => ?_)
            go_simp
            have HR2 := Lib.hid (rcs_lit W1 L0 W1.heap.size (rfl) (by have := EW1.out.size; have := HW0.out; omega))
            have hb := below_one W1 (.cells #[] 36)
            have HY2 := Lib.hid (HY1.out.below hb)
            have HX2 := Lib.hid (HX1.out.chg (gs := []) (Chg.of_below hb) (by simp))
            have EW2 := Lib.hid (Ext.trans EW1.out hb)
            refine hK.out _ _ (Ext W) (fun _ h => h) (EW2.out) ?_
            clear hK K
            clear hb
            have hSw := EW2.out
            have HA2 := Lib.hid (HA1.out.below (below_one W1 (.cells #[] 36)))
            generalize hW2 : (W1.alloc (.cells #[] 36)) = W2 at *
            refine wpAnyH_oneS2 (i := 2) rfl (by kernel_rfl) (by rfl) (fun K hK => ?_)
            refine wp_appRec (.tmp 106) (.tmp 107) rfl L0 (some ⟨W1.heap.size, 0, none⟩) 0 0 [] rfl rfl HR2.out va n vc ys HN.out rfl HY2.out (by omega) (by have := EW2.out.size; have := HW0.out; omega) (fun y hy => by have h1 := HYH.out y hy; have h2 := EW2.out.size; have h3 := HW0.out; have h4 := (HR2.out.lt (g := W1.heap.size) (by simp [blk])).1; exact ⟨by omega, fun g hg => by simp [blk] at hg; subst hg; right; omega⟩) ?_
            intro va3 vc3 w3 ho chg hat
            rw [List.nil_append] at ho
            rw [Nat.zero_add]
            have HO3 := Lib.hid ho
            have CH3 := Lib.hid chg
            have EW3 : Hid (Ext W w3) := chg.below EW2.out EW2.out.size (fun g hg => by have h1 := (HR2.out.lt hg).1; have h2 := HW0.out; omega)
            have HX3 := Lib.hid (HX2.out.chg chg (fun g hg => .inr (by have h1 := (HR2.out.lt hg).1; have h2 := HSZ.out; omega)))
            clear ho chg hat
            go_simp
            refine hK.out _ _ (Ext W) (fun _ h => h) (EW3.out) ?_
            clear hK K
            have hSw := EW3.out
            have HA3 := Lib.hid (HA2.out.chg CH3.out (by have := HLT.out; simp [blk]; omega) (fun x hx g hg => by rw [List.mem_singleton.mp hx]; have h1 := HSZ.out; have h2 := HLT.out; simp [blk] at hg; subst hg; right; show w.heap.size ≤ _; omega))
            refine wpAnyH_oneS2 (i := 5) rfl (by kernel_rfl) (by rfl) (fun K hK => ?_)
            refine wp_appRec (.tmp 108) (.tmp 110) rfl L0 va3 vc3 n ys HN.out rfl HO3.out (some ⟨L0, 0, none⟩) 1 1 [⟨r, ma, mc, ea, ec, 0, w.heap.size⟩] rfl rfl HA3.out (by omega) (by have := EW3.out.size; have := HW0.out; omega) (fun y hy => by rw [List.mem_singleton.mp hy]; have h2 := EW3.out.size; have h3 := HW0.out; have h5 := HSZ.out; exact ⟨by show w.heap.size ≤ _; omega, fun g hg => .inr (by have h4 := (HO3.out.lt hg).1; show w.heap.size ≤ g; omega)⟩) ?_
            intro va4 vc4 w4 ho chg hat
            have HQ4 := Lib.hid ho.at_
            have HN4 : Hid (∀ g ∈ blk va4, L0 ≤ g ∧ g < w4.heap.size) := fun g hg => ho.lt hg
            have EW4 : Hid (Ext W w4) := chg.below EW3.out EW3.out.size (fun g hg => by have h1 := (HO3.out.lt hg).1; have h2 := HW0.out; omega)
            clear ho chg hat
            go_simp
            refine hK.out _ _ (Ext W) (fun _ h => h) (EW4.out) ?_
            clear hK K
            have hSw := EW4.out
            refine wpAnyH_tkS2 (i := 6) 16 (v := ?_) rfl rfl (by kernel_rfl) (by kernel_rfl) (by kernel_rfl) (by rfl) hSw (fun wq hwq => ?_) ?_
            rotate_left
            · (have hx := True.intro; go_simp <;> with_reducible rfl)
            simp only [List.setIfInBounds_toArray, List.set_cons_zero, List.set_cons_succ]
            refine wpAnyH_done (by kernel_rfl) ?_ _
            refine NoPanic.normal ?_
            have EXF := Lib.hid (Ext.trans HWB.out EW4.out)
            refine hKK _ _ (Met.intro (hJJ _ _ ?_))
            (repeat apply Exists.intro)
            exact ⟨⟨va4, vc4, rfl, HQ4, EXF⟩, rfl⟩
        case rest =>
        obtain ⟨vw, vwc, rfl, HW, HEX⟩ := hcut
        obtain ⟨zs, hzs, hzg, hcase⟩ := HZ.out
        subst hzs
        obtain ⟨L, hL⟩ : ∃ L, (frm (encR r)).length = L := ⟨_, rfl⟩
        have HL := Lib.hid hL
        have hcase' : (zs = ys ++ [(⟨r, ma, mc, ea, ec, 0, w.heap.size⟩ : Rl)] ∧ L ≤ K) ∨ (zs = ys ∧ ¬ L ≤ K) := by rw [← hL]; exact hcase
        have HCS := Lib.hid hcase'
        have HZG := Lib.hid hzg
        obtain ⟨zn, hzn⟩ : ∃ q, zs.length = q := ⟨_, rfl⟩
        have HZN := Lib.hid hzn
        have hzn9 : zn ≤ 9 := by
          rw [← hzn]
          rcases hcase' with ⟨e, _⟩ | ⟨e, _⟩
          · rw [e, List.length_append, HN.out]; simp; omega
          · rw [e, HN.out]; omega
        have HZL : Hid ((zs.map encX).length = zn) := by show _ = _; rw [List.length_map]; exact hzn
        have HZF : Hid ((frms (zs.map encX)).length ≤ 21060) := by have := good_frms zs hzg; rw [hzn] at this; show _ ≤ _; omega
        have H12 := Lib.hid (H11.out.below HEX.out)
        have HO12 := Lib.hid (HO11.out.at_.below HEX.out)
        clear hL hcase hcase' hzg hzn HZ H11 HO11 HA11
        go_wp2_with fail
        refine (bkRecords_any wz.heap.size RB2 R a11 ga11 _ (zs.map encX) F11 _ H12.out.bk (by rw [HZL.out]; omega) (fun c hc => by obtain ⟨z, hz, rfl⟩ := List.mem_map.mp hc; exact ⟨(HZG.out z hz).enc.1, by have := (HZG.out z hz).len; omega⟩)).mono ?_
        rintro e w13 ⟨vg, vgc, gs, rfl, hgs, hrc, hlo, hb13⟩
        rw [good_decs zs HZG.out] at hgs
        rw [HZL.out]
        have HGS := Lib.hid hgs
        have HRC := Lib.hid (rcs_base hrc H12.out.bel.size)
        have HLO := Lib.hid hlo
        have H13 := Lib.hid (H12.out.below hb13)
        have HW13 := Lib.hid (HW.out.below hb13)
        have HO13 := Lib.hid (HO12.out.below hb13)
        have HM13 : Hid (∀ g ∈ bkM RB2 R a11 ga11, g ∉ blk vg ∧ ∀ x ∈ gs, g < x.lo ∨ x.hi ≤ g) := fun g hg => by
          have h1 := (H12.out.bk.mLt hg).2
          exact ⟨fun e => by have := (hrc.lt e).1; omega, fun x hx => by have := hlo x hx; left; omega⟩
        have HB5 := Lib.hid (FX.out.b5.below H13.out.bel)
        have HSM := Lib.hid (xs_mem hgs (P := Small) (fun q hq => by obtain ⟨z, hz, rfl⟩ := List.mem_map.mp hq; exact (HZG.out z hz).small))
        have HWC : Hid (wz.heap.size ≤ wc.heap.size) := H12.out.bel.size
        clear hgs hrc hlo hb13 H12 HW HO12
        have x0 := HB5.out.c0
        have x1 := HB5.out.c1
        have x2 := HB5.out.c2
        have x3 := HB5.out.c3
        have x4 := HB5.out.c4
        have x5 := HB5.out.c5
        go_wp2_with fail
        refine (lawFrame_any _ _ _ _ _ _ r _ (FX.out.ok.below H13.out.bel) HLM.out HLE.out (small_of HS3.out).med).mono ?_
        rintro e w14 ⟨g14, c14, rfl, _, hb14⟩
        rw [HL.out]
        have H14 := Lib.hid (H13.out.below hb14)
        have HW14 := Lib.hid (HW13.out.below hb14)
        have HO14 := Lib.hid (HO13.out.below hb14)
        have HRC14 := Lib.hid (HRC.out.below hb14)
        clear x0 x1 x2 x3 x4 x5
        clear hb14 H13 HW13 HO13 HRC HB5
        by_cases hw : L ≤ K
        · have d1 : decide ((L : Int) ≤ (K : Int)) = true := by simp; omega
          have d2 : decide (L ≤ K) = true := by simp; omega
          have hzz : zs = ys ++ [(⟨r, ma, mc, ea, ec, 0, w.heap.size⟩ : Rl)] := by
            rcases HCS.out with ⟨e, _⟩ | ⟨_, e⟩
            · exact e
            · exact absurd hw e
          have hz1 : zn = n + 1 := by rw [← HZN.out, hzz, List.length_append, HN.out]; rfl
          subst hz1
          have HWL : Hid ((ys ++ [(⟨r, ma, mc, ea, ec, 0, w.heap.size⟩ : Rl)]).length = n + 1) := by show _ = _; rw [List.length_append, HN.out]; rfl
          have HGL : Hid (gs.length = n + 1) := by show _ = _; rw [xs_len HGS.out, List.length_map]; exact HZN.out
          have HEQ : Hid (decide (gs.map encX = (ys ++ [(⟨r, ma, mc, ea, ec, 0, w.heap.size⟩ : Rl)]).map encX) = true) := decide_eq_true (by rw [← hzz, encX_map gs, HGS.out, ← encX_map])
          have HWS : Hid (∀ y ∈ ys ++ [(⟨r, ma, mc, ea, ec, 0, w.heap.size⟩ : Rl)], Small y.r) := fun y hy => by rw [← hzz] at hy; exact (HZG.out y hy).small
          clear hzz
          go_wp2_with fail
          refine (sameRecs_any _ _ _ _ (n + 1) gs _ _ HGL.out HRC14.out.at_ HWL.out HW14.out HSM.out HWS.out).mono ?_
          rw [HEQ.out]
          rintro e w15 ⟨rfl, hb15⟩
          have H15 := Lib.hid (H14.out.below hb15)
          have HRC15 := Lib.hid (HRC14.out.below hb15)
          clear hb15 H14 HRC14
          have HB6 := Lib.hid (FX.out.b6.below H15.out.bel)
          have x0 := HB6.out.c0
          have x1 := HB6.out.c1
          have x2 := HB6.out.c2
          have x3 := HB6.out.c3
          have x4 := HB6.out.c4
          have x5 := HB6.out.c5
          go_wp2_with fail
          refine (bkAppend_yes wz.heap.size RB2 R a11 ga11 _ (zs.map encX) F11 _ _ _ _ _ _ r' _ H15.out.bk (by rw [HZL.out]; omega) (FX.out.ok'.below H15.out.bel) HLM'.out HLE'.out HS4.out).mono ?_
          rw [wrt_more _ _ _ (by rw [frm_len]; have := HZF.out; have := HCN.out; omega)]
          rintro e w16 ⟨rfl, a16, ga16, F16, hk16, hm16, -⟩
          rw [if_pos rfl] at hk16
          have H16 := Lib.hid (H15.out.mv hk16 hm16)
          have HRM16 := Lib.hid (HRC15.out.mv hm16 HM13.out)
          clear x0 x1 x2 x3 x4 x5
          clear hk16 hm16 HB6 H15 HRC15
          have HNG1 : Hid (∀ z ∈ zs ++ [(⟨r', ma', mc', ea', ec', 0, w.heap.size⟩ : Rl)], GoodX z) := fun z hz => by
            rcases List.mem_append.mp hz with hz | hz
            · exact HZG.out z hz
            · rw [List.mem_singleton.mp hz]; exact HNG.out
          have HPE : Hid (frms (zs.map encX) ++ frm (encR r') = frms ((zs ++ [(⟨r', ma', mc', ea', ec', 0, w.heap.size⟩ : Rl)]).map encX)) := by show _ = _; rw [List.map_append, List.map_cons, List.map_nil, frms_snoc]; rfl
          go_wp2_with fail
          refine (bkOpen_any wz.heap.size R a16 _ _ H16.out.bk.dsk rfl rfl).mono ?_
          rintro e w17 ⟨RB3, a17, ga17, cs17, rest17, F17, rfl, hv17, hk17, hm17⟩
          dsimp only at hv17
          rw [HPE.out] at hv17
          obtain ⟨rfl, -⟩ := vld_whole _ _ _ (good_encs _ HNG1.out) hv17
          have H17 := Lib.hid (H16.out.mv hk17 (hm17.opened (RB := RB2) (ga := ga16)))
          have HRC17 := Lib.hid (HRM16.out.1.mv (hm17.opened (RB := RB2) (ga := ga16)) HRM16.out.2).1
          clear hk17 hm17 hv17 H16 HRM16
          have HZL2 : Hid (((zs ++ [(⟨r', ma', mc', ea', ec', 0, w.heap.size⟩ : Rl)]).map encX).length = n + 1 + 1) := by show _ = _; rw [List.length_map, List.length_append, HZN.out]; rfl
          have HSM2 : Hid (∀ x ∈ gs ++ [(⟨r', ma', mc', ea', ec', 0, w.heap.size⟩ : Rl)], Small x.r) := fun x hx => by
            rcases List.mem_append.mp hx with hx | hx
            · exact HSM.out x hx
            · rw [List.mem_singleton.mp hx]; exact HNG.out.small
          have HGE : Hid ((gs ++ [(⟨r', ma', mc', ea', ec', 0, w.heap.size⟩ : Rl)]).map encX = (zs ++ [(⟨r', ma', mc', ea', ec', 0, w.heap.size⟩ : Rl)]).map encX) := by
            show _ = _
            rw [List.map_append, List.map_append, encX_map gs, HGS.out, ← encX_map]
          go_upto_region 28 with fail
          refine wp_region_S2 (fun x => R6 x (w.heap.size + 1) 0 r' ma' lm' mc' ea' le' ec') (by kernel_rfl) ?_
          have H17d := Lib.hid (H17.out.below (Below.drew (Below.refl _ w17)))
          have HRC17d := Lib.hid (HRC17.out.below (Below.drew (Below.refl _ w17)))
          generalize w17.drew = W at *
          have hSw := FX.out.b6.below H17d.out.bel
          clear H17 HRC17
          refine wpAnyH_oneS2 (i := 0) rfl (by kernel_rfl) (by rfl) (fun K hK => ?_)
          go_simp
          go_at_call 19
          refine (awake9 _).mono ?_
          rintro e w18 ⟨rfl, hb18⟩
          have H18 := Lib.hid (H17d.out.below hb18)
          have HRC18 := Lib.hid (HRC17d.out.below hb18)
          refine hK.out _ _ (fun x => R6 x (w.heap.size + 1) 0 r' ma' lm' mc' ea' le' ec') (fun _ h => h) (hSw.below hb18) ?_
          clear hK K
          clear hb18 hSw H17d HRC17d
          have hSw := FX.out.b6.below H18.out.bel
          refine wpAnyH_tkS2 (i := 1) 148 (v := ?_) rfl rfl (by kernel_rfl) (by kernel_rfl) (by kernel_rfl) (by rfl) hSw (fun wq hwq => ?_) ?_
          rotate_left
          · (have hx := True.intro; go_simp <;> with_reducible rfl)
          simp only [List.setIfInBounds_toArray, List.set_cons_zero, List.set_cons_succ]
          refine wpAnyH_tkS2 (i := 2) 149 (v := ?_) rfl rfl (by kernel_rfl) (by kernel_rfl) (by kernel_rfl) (by rfl) hSw (fun wq hwq => ?_) ?_
          rotate_left
          · (have hx := True.intro; go_simp <;> with_reducible rfl)
          simp only [List.setIfInBounds_toArray, List.set_cons_zero, List.set_cons_succ]
          refine wpAnyH_tkS2 (i := 3) 150 (v := ?_) rfl rfl (by kernel_rfl) (by kernel_rfl) (by kernel_rfl) (by rfl) hSw (fun wq hwq => ?_) ?_
          rotate_left
          · (have hx := True.intro; go_simp <;> with_reducible rfl)
          simp only [List.setIfInBounds_toArray, List.set_cons_zero, List.set_cons_succ]
          refine wpAnyH_tkS2 (i := 4) 151 (v := ?_) rfl rfl (by kernel_rfl) (by kernel_rfl) (by kernel_rfl) (by rfl) hSw (fun wq hwq => ?_) ?_
          rotate_left
          · (have hx := True.intro; go_simp <;> with_reducible rfl)
          simp only [List.setIfInBounds_toArray, List.set_cons_zero, List.set_cons_succ]
          refine wpAnyH_tkS2 (i := 5) 152 (v := ?_) rfl rfl (by kernel_rfl) (by kernel_rfl) (by kernel_rfl) (by rfl) hSw (fun wq hwq => ?_) ?_
          rotate_left
          · (have hx := True.intro; go_simp <;> with_reducible rfl)
          simp only [List.setIfInBounds_toArray, List.set_cons_zero, List.set_cons_succ]
          refine wpAnyH_tkS2 (i := 6) 153 (v := ?_) rfl rfl (by kernel_rfl) (by kernel_rfl) (by kernel_rfl) (by rfl) hSw (fun wq hwq => ?_) ?_
          rotate_left
          · (have hx := True.intro; go_simp <;> with_reducible rfl)
          simp only [List.setIfInBounds_toArray, List.set_cons_zero, List.set_cons_succ]
          refine wpAnyH_tkS2 (i := 7) 154 (v := ?_) rfl rfl (by kernel_rfl) (by kernel_rfl) (by kernel_rfl) (by rfl) hSw (fun wq hwq => ?_) ?_
          rotate_left
          · (have hx := True.intro; go_simp <;> with_reducible rfl)
          simp only [List.setIfInBounds_toArray, List.set_cons_zero, List.set_cons_succ]
          refine wpAnyH_tkS2 (i := 8) 155 (v := ?_) rfl rfl (by kernel_rfl) (by kernel_rfl) (by kernel_rfl) (by rfl) hSw (fun wq hwq => ?_) ?_
          rotate_left
          · (have hx := True.intro; go_simp <;> with_reducible rfl)
          simp only [List.setIfInBounds_toArray, List.set_cons_zero, List.set_cons_succ]
          refine wpAnyH_tkS2 (i := 9) 156 (v := ?_) rfl rfl (by kernel_rfl) (by kernel_rfl) (by kernel_rfl) (by rfl) hSw (fun wq hwq => ?_) ?_
          rotate_left
          · (have hx := True.intro; go_simp <;> with_reducible rfl)
          simp only [List.setIfInBounds_toArray, List.set_cons_zero, List.set_cons_succ]
          refine wpAnyH_tkS2 (i := 10) 157 (v := ?_) rfl rfl (by kernel_rfl) (by kernel_rfl) (by kernel_rfl) (by rfl) hSw (fun wq hwq => ?_) ?_
          rotate_left
          · (have hx := True.intro; go_simp <;> with_reducible rfl)
          simp only [List.setIfInBounds_toArray, List.set_cons_zero, List.set_cons_succ]
          refine wpAnyH_tkS2 (i := 12) 159 (v := ?_) rfl rfl (by kernel_rfl) (by kernel_rfl) (by kernel_rfl) (by rfl) hSw (fun wq hwq => ?_) ?_
          rotate_left
          · (have hx := True.intro; go_simp <;> with_reducible rfl)
          simp only [List.setIfInBounds_toArray, List.set_cons_zero, List.set_cons_succ]
          refine wpAnyH_tkS2 (i := 13) 160 (v := ?_) rfl rfl (by kernel_rfl) (by kernel_rfl) (by kernel_rfl) (by rfl) hSw (fun wq hwq => ?_) ?_
          rotate_left
          · (have x0 := hwq.c0; have x1 := hwq.c1; have x2 := hwq.c2; have x3 := hwq.c3; have x4 := hwq.c4; have x5 := hwq.c5; go_simp <;> with_reducible rfl)
          simp only [List.setIfInBounds_toArray, List.set_cons_zero, List.set_cons_succ]
          have HXN18 : Hid (Rob 0 w.heap.size w18 (Rl.ok ⟨r', ma', mc', ea', ec', 0, w.heap.size⟩)) := rob_old (fun w' hb => RecAt.below HR0'.out hb) (Ext.trans EZ.out H18.out.bel)
          have HSZ18 : Hid (w.heap.size ≤ wz.heap.size ∧ wz.heap.size ≤ w18.heap.size) := ⟨HWZ.out, H18.out.bel.size⟩
          refine wpAnyH_twoS2 (i := 11) (j := 14) rfl rfl (by kernel_rfl) (by rfl) (by rfl) (fun K hK => ?_) (fun K hK => ?_)
          · go_simp
            refine (bkRecords_any wz.heap.size RB3 R a17 ga17 _ ((zs ++ [(⟨r', ma', mc', ea', ec', 0, w.heap.size⟩ : Rl)]).map encX) F17 _ H18.out.bk (by rw [HZL2.out]; omega) (fun c hc => by obtain ⟨z, hz, rfl⟩ := List.mem_map.mp hc; exact ⟨(HNG1.out z hz).enc.1, by have := (HNG1.out z hz).len; omega⟩)).mono ?_
            rintro e w19 ⟨vx, vxc, xs2, rfl, hx2, hrc2, hlo2, hb19⟩
            rw [good_decs _ HNG1.out] at hx2
            rw [HZL2.out]
            have HX2 := Lib.hid hx2
            have HRX := Lib.hid hrc2
            have HLX := Lib.hid hlo2
            have H19 := Lib.hid (H18.out.below hb19)
            have HRC19 := Lib.hid (HRC18.out.below hb19)
            have HXN19 := Lib.hid (HXN18.out.chg (gs := []) (Chg.of_below hb19) (by simp))
            refine hK.out _ _ (fun x => R6 x (w.heap.size + 1) 0 r' ma' lm' mc' ea' le' ec') (fun _ h => h) (FX.out.b6.below H19.out.bel) ?_
            clear hK K
            have hs19 := hb19.size
            clear hSw hx2 hrc2 hlo2 hb19
            refine wpAnyH_oneS2 (i := 14) rfl (by kernel_rfl) (by rfl) (fun K hK => ?_)
            go_simp
            have hb20 := below_one w19 (.cells #[.int .i64 r'.kind, .int .i64 r'.epoch, .slice ma' lm' mc', .int .i64 r'.pos, .int .i64 r'.last, .slice ea' le' ec'] 36)
            have HA20 := Lib.hid (rca_box r' ma' ea' mc' ec' 0 w.heap.size lm' le' w19.heap.size HLM'.out HLE'.out rfl HXN19.out)
            have H20 := Lib.hid (H19.out.below hb20)
            have HRC20 := Lib.hid (HRC19.out.below hb20)
            have HRX20 := Lib.hid (HRX.out.at_.below hb20)
            refine hK.out _ _ (fun x => R6 x (w.heap.size + 1) 0 r' ma' lm' mc' ea' le' ec') (fun _ h => h) (FX.out.b6.below H20.out.bel) ?_
            clear hK K
            have hs20 := hb20.size
            clear hb20
            generalize (w19.alloc (.cells #[.int .i64 r'.kind, .int .i64 r'.epoch, .slice ma' lm' mc', .int .i64 r'.pos, .int .i64 r'.last, .slice ea' le' ec'] 36)) = w20 at *
            refine wpAnyH_oneS2 (i := 15) rfl (by kernel_rfl) (by rfl) (fun K hK => ?_)
            refine wp_appRec (.tmp 159) (.tmp 161) rfl wz.heap.size vg vgc _ gs HGL.out rfl HRC20.out (some ⟨w19.heap.size, 0, none⟩) 1 1 [(⟨r', ma', mc', ea', ec', 0, w.heap.size⟩ : Rl)] rfl rfl HA20.out (by omega) (by have := HSZ18.out.2; omega) (fun y hy => by rw [List.mem_singleton.mp hy]; have h5 := HSZ18.out; exact ⟨by show w.heap.size ≤ _; omega, fun g hg => .inr (by have h4 := (HRC20.out.lt hg).1; show w.heap.size ≤ g; omega)⟩) ?_
            intro va21 vc21 w21 ho chg hat
            have HQ21 := Lib.hid ho.at_
            have HRX21 := Lib.hid (HRX20.out.chg chg (fun g hg e => by have h1 := (HRX.out.lt hg).1; have h2 := (HRC18.out.lt e).2; omega) (fun x hx g hg => by have h1 := HLX.out x hx; have h2 := (HRC18.out.lt hg).2; left; omega))
            have EB21 : Hid (Below wz.heap.size wz w21) := chg.below H20.out.bel H20.out.bel.size (fun g hg => (HRC20.out.lt hg).1)
            clear ho chg hat
            go_simp
            refine hK.out _ _ (fun x => R6 x (w.heap.size + 1) 0 r' ma' lm' mc' ea' le' ec') (fun _ h => h) (FX.out.b6.below EB21.out) ?_
            clear hK K
            refine wpAnyH_oneS2 (i := 16) rfl (by kernel_rfl) (by rfl) (fun K hK => ?_)
            go_simp
            refine (sameRecs_any _ _ _ _ _ xs2 _ _ (by rw [xs_len HX2.out, List.length_map]; have := HZL2.out; rw [List.length_map] at this; exact this) HRX21.out (by rw [List.length_append, HGL.out]; rfl) HQ21.out (xs_mem HX2.out (fun q hq => by obtain ⟨z, hz, rfl⟩ := List.mem_map.mp hq; exact (HNG1.out z hz).small)) HSM2.out).mono ?_
            rw [encX_map xs2, HX2.out, ← encX_map, HGE.out, decide_eq_true rfl]
            rintro e w22 ⟨rfl, hb22⟩
            have EF : Hid (Below w.heap.size w w22) := Ext.trans EZ.out (EB21.out.trans (hb22.mono EB21.out.size))
            refine hK.out _ _ (fun x => R6 x (w.heap.size + 1) 0 r' ma' lm' mc' ea' le' ec') (fun _ h => h) (FX.out.b6.below (EB21.out.trans (hb22.mono EB21.out.size))) ?_
            clear hK K
            have hSw := FX.out.b6.below (EB21.out.trans (hb22.mono EB21.out.size))
            refine wpAnyH_tkS2 (i := 17) 164 (v := ?_) rfl rfl (by kernel_rfl) (by kernel_rfl) (by kernel_rfl) (by rfl) hSw (fun wq hwq => ?_) ?_
            rotate_left
            · (have hx := True.intro; go_simp <;> with_reducible rfl)
            simp only [List.setIfInBounds_toArray, List.set_cons_zero, List.set_cons_succ]
            refine wpAnyH_tkS2 (i := 18) 8 (v := ?_) rfl rfl (by kernel_rfl) (by kernel_rfl) (by kernel_rfl) (by rfl) hSw (fun wq hwq => ?_) ?_
            rotate_left
            · (have hx := True.intro; go_simp <;> with_reducible rfl)
            simp only [List.setIfInBounds_toArray, List.set_cons_zero, List.set_cons_succ]
            refine wpAnyH_done (by kernel_rfl) ?_ _
            refine NoPanic.normal ?_
            go_wp2
            go_ret
            exact ⟨rfl, EF.out⟩
          · go_simp
            have hb19 := below_one w18 (.cells #[.int .i64 r'.kind, .int .i64 r'.epoch, .slice ma' lm' mc', .int .i64 r'.pos, .int .i64 r'.last, .slice ea' le' ec'] 36)
            have HA19 := Lib.hid (rca_box r' ma' ea' mc' ec' 0 w.heap.size lm' le' w18.heap.size HLM'.out HLE'.out rfl HXN18.out)
            have H19 := Lib.hid (H18.out.below hb19)
            have HRC19 := Lib.hid (HRC18.out.below hb19)
            refine hK.out _ _ (fun x => R6 x (w.heap.size + 1) 0 r' ma' lm' mc' ea' le' ec') (fun _ h => h) (FX.out.b6.below H19.out.bel) ?_
            clear hK K
            have hs19 := hb19.size
            clear hSw hb19
            generalize (w18.alloc (.cells #[.int .i64 r'.kind, .int .i64 r'.epoch, .slice ma' lm' mc', .int .i64 r'.pos, .int .i64 r'.last, .slice ea' le' ec'] 36)) = w19 at *
            refine wpAnyH_oneS2 (i := 11) rfl (by kernel_rfl) (by rfl) (fun K hK => ?_)
            go_simp
            refine (bkRecords_any wz.heap.size RB3 R a17 ga17 _ ((zs ++ [(⟨r', ma', mc', ea', ec', 0, w.heap.size⟩ : Rl)]).map encX) F17 _ H19.out.bk (by rw [HZL2.out]; omega) (fun c hc => by obtain ⟨z, hz, rfl⟩ := List.mem_map.mp hc; exact ⟨(HNG1.out z hz).enc.1, by have := (HNG1.out z hz).len; omega⟩)).mono ?_
            rintro e w20 ⟨vx, vxc, xs2, rfl, hx2, hrc2, hlo2, hb20⟩
            rw [good_decs _ HNG1.out] at hx2
            rw [HZL2.out]
            have HX2 := Lib.hid hx2
            have HRX := Lib.hid hrc2
            have HLX := Lib.hid hlo2
            have H20 := Lib.hid (H19.out.below hb20)
            have HRC20 := Lib.hid (HRC19.out.below hb20)
            have HRX20 := Lib.hid hrc2.at_
            have HA20 := Lib.hid (HA19.out.below hb20)
            refine hK.out _ _ (fun x => R6 x (w.heap.size + 1) 0 r' ma' lm' mc' ea' le' ec') (fun _ h => h) (FX.out.b6.below H20.out.bel) ?_
            clear hK K
            have hs20 := hb20.size
            clear hx2 hrc2 hlo2 hb20
            refine wpAnyH_oneS2 (i := 15) rfl (by kernel_rfl) (by rfl) (fun K hK => ?_)
            refine wp_appRec (.tmp 159) (.tmp 161) rfl wz.heap.size vg vgc _ gs HGL.out rfl HRC20.out (some ⟨w18.heap.size, 0, none⟩) 1 1 [(⟨r', ma', mc', ea', ec', 0, w.heap.size⟩ : Rl)] rfl rfl HA20.out (by omega) (by have := HSZ18.out.2; omega) (fun y hy => by rw [List.mem_singleton.mp hy]; have h5 := HSZ18.out; exact ⟨by show w.heap.size ≤ _; omega, fun g hg => .inr (by have h4 := (HRC20.out.lt hg).1; show w.heap.size ≤ g; omega)⟩) ?_
            intro va21 vc21 w21 ho chg hat
            have HQ21 := Lib.hid ho.at_
            have HRX21 := Lib.hid (HRX20.out.chg chg (fun g hg e => by have h1 := (HRX.out.lt hg).1; have h2 := (HRC18.out.lt e).2; omega) (fun x hx g hg => by have h1 := HLX.out x hx; have h2 := (HRC18.out.lt hg).2; left; omega))
            have EB21 : Hid (Below wz.heap.size wz w21) := chg.below H20.out.bel H20.out.bel.size (fun g hg => (HRC20.out.lt hg).1)
            clear ho chg hat
            go_simp
            refine hK.out _ _ (fun x => R6 x (w.heap.size + 1) 0 r' ma' lm' mc' ea' le' ec') (fun _ h => h) (FX.out.b6.below EB21.out) ?_
            clear hK K
            refine wpAnyH_oneS2 (i := 16) rfl (by kernel_rfl) (by rfl) (fun K hK => ?_)
            go_simp
            refine (sameRecs_any _ _ _ _ _ xs2 _ _ (by rw [xs_len HX2.out, List.length_map]; have := HZL2.out; rw [List.length_map] at this; exact this) HRX21.out (by rw [List.length_append, HGL.out]; rfl) HQ21.out (xs_mem HX2.out (fun q hq => by obtain ⟨z, hz, rfl⟩ := List.mem_map.mp hq; exact (HNG1.out z hz).small)) HSM2.out).mono ?_
            rw [encX_map xs2, HX2.out, ← encX_map, HGE.out, decide_eq_true rfl]
            rintro e w22 ⟨rfl, hb22⟩
            have EF : Hid (Below w.heap.size w w22) := Ext.trans EZ.out (EB21.out.trans (hb22.mono EB21.out.size))
            refine hK.out _ _ (fun x => R6 x (w.heap.size + 1) 0 r' ma' lm' mc' ea' le' ec') (fun _ h => h) (FX.out.b6.below (EB21.out.trans (hb22.mono EB21.out.size))) ?_
            clear hK K
            have hSw := FX.out.b6.below (EB21.out.trans (hb22.mono EB21.out.size))
            refine wpAnyH_tkS2 (i := 17) 164 (v := ?_) rfl rfl (by kernel_rfl) (by kernel_rfl) (by kernel_rfl) (by rfl) hSw (fun wq hwq => ?_) ?_
            rotate_left
            · (have hx := True.intro; go_simp <;> with_reducible rfl)
            simp only [List.setIfInBounds_toArray, List.set_cons_zero, List.set_cons_succ]
            refine wpAnyH_tkS2 (i := 18) 8 (v := ?_) rfl rfl (by kernel_rfl) (by kernel_rfl) (by kernel_rfl) (by rfl) hSw (fun wq hwq => ?_) ?_
            rotate_left
            · (have hx := True.intro; go_simp <;> with_reducible rfl)
            simp only [List.setIfInBounds_toArray, List.set_cons_zero, List.set_cons_succ]
            refine wpAnyH_done (by kernel_rfl) ?_ _
            refine NoPanic.normal ?_
            go_wp2
            go_ret
            exact ⟨rfl, EF.out⟩
        · have d1 : decide ((L : Int) ≤ (K : Int)) = false := by simp; omega
          have d2 : decide (L ≤ K) = false := by simp; omega
          have hzz : zs = ys := by
            rcases HCS.out with ⟨_, e⟩ | ⟨e, _⟩
            · exact absurd e hw
            · exact e
          have hz1 : zn = n := by rw [← HZN.out, hzz, HN.out]
          subst hz1
          have HGL : Hid (gs.length = zn) := by show _ = _; rw [xs_len HGS.out, List.length_map]; exact HZN.out
          have HEQ : Hid (decide (gs.map encX = ys.map encX) = true) := decide_eq_true (by rw [← hzz, encX_map gs, HGS.out, ← encX_map])
          have HWS : Hid (∀ y ∈ ys, Small y.r) := fun y hy => by rw [← hzz] at hy; exact (HZG.out y hy).small
          clear hzz
          go_wp2_with fail
          refine (sameRecs_any _ _ _ _ zn gs _ _ HGL.out HRC14.out.at_ HN.out HO14.out HSM.out HWS.out).mono ?_
          rw [HEQ.out]
          rintro e w15 ⟨rfl, hb15⟩
          have H15 := Lib.hid (H14.out.below hb15)
          have HRC15 := Lib.hid (HRC14.out.below hb15)
          clear hb15 H14 HRC14
          have HB6 := Lib.hid (FX.out.b6.below H15.out.bel)
          have x0 := HB6.out.c0
          have x1 := HB6.out.c1
          have x2 := HB6.out.c2
          have x3 := HB6.out.c3
          have x4 := HB6.out.c4
          have x5 := HB6.out.c5
          go_wp2_with fail
          refine (bkAppend_yes wz.heap.size RB2 R a11 ga11 _ (zs.map encX) F11 _ _ _ _ _ _ r' _ H15.out.bk (by rw [HZL.out]; omega) (FX.out.ok'.below H15.out.bel) HLM'.out HLE'.out HS4.out).mono ?_
          rw [wrt_more _ _ _ (by rw [frm_len]; have := HZF.out; have := HCN.out; omega)]
          rintro e w16 ⟨rfl, a16, ga16, F16, hk16, hm16, -⟩
          rw [if_pos rfl] at hk16
          have H16 := Lib.hid (H15.out.mv hk16 hm16)
          have HRM16 := Lib.hid (HRC15.out.mv hm16 HM13.out)
          clear x0 x1 x2 x3 x4 x5
          clear hk16 hm16 HB6 H15 HRC15
          have HNG1 : Hid (∀ z ∈ zs ++ [(⟨r', ma', mc', ea', ec', 0, w.heap.size⟩ : Rl)], GoodX z) := fun z hz => by
            rcases List.mem_append.mp hz with hz | hz
            · exact HZG.out z hz
            · rw [List.mem_singleton.mp hz]; exact HNG.out
          have HPE : Hid (frms (zs.map encX) ++ frm (encR r') = frms ((zs ++ [(⟨r', ma', mc', ea', ec', 0, w.heap.size⟩ : Rl)]).map encX)) := by show _ = _; rw [List.map_append, List.map_cons, List.map_nil, frms_snoc]; rfl
          go_wp2_with fail
          refine (bkOpen_any wz.heap.size R a16 _ _ H16.out.bk.dsk rfl rfl).mono ?_
          rintro e w17 ⟨RB3, a17, ga17, cs17, rest17, F17, rfl, hv17, hk17, hm17⟩
          dsimp only at hv17
          rw [HPE.out] at hv17
          obtain ⟨rfl, -⟩ := vld_whole _ _ _ (good_encs _ HNG1.out) hv17
          have H17 := Lib.hid (H16.out.mv hk17 (hm17.opened (RB := RB2) (ga := ga16)))
          have HRC17 := Lib.hid (HRM16.out.1.mv (hm17.opened (RB := RB2) (ga := ga16)) HRM16.out.2).1
          clear hk17 hm17 hv17 H16 HRM16
          have HZL2 : Hid (((zs ++ [(⟨r', ma', mc', ea', ec', 0, w.heap.size⟩ : Rl)]).map encX).length = zn + 1) := by show _ = _; rw [List.length_map, List.length_append, HZN.out]; rfl
          have HSM2 : Hid (∀ x ∈ gs ++ [(⟨r', ma', mc', ea', ec', 0, w.heap.size⟩ : Rl)], Small x.r) := fun x hx => by
            rcases List.mem_append.mp hx with hx | hx
            · exact HSM.out x hx
            · rw [List.mem_singleton.mp hx]; exact HNG.out.small
          have HGE : Hid ((gs ++ [(⟨r', ma', mc', ea', ec', 0, w.heap.size⟩ : Rl)]).map encX = (zs ++ [(⟨r', ma', mc', ea', ec', 0, w.heap.size⟩ : Rl)]).map encX) := by
            show _ = _
            rw [List.map_append, List.map_append, encX_map gs, HGS.out, ← encX_map]
          go_upto_region 28 with fail
          refine wp_region_S2 (fun x => R6 x (w.heap.size + 1) 0 r' ma' lm' mc' ea' le' ec') (by kernel_rfl) ?_
          have H17d := Lib.hid (H17.out.below (Below.drew (Below.refl _ w17)))
          have HRC17d := Lib.hid (HRC17.out.below (Below.drew (Below.refl _ w17)))
          generalize w17.drew = W at *
          have hSw := FX.out.b6.below H17d.out.bel
          clear H17 HRC17
          refine wpAnyH_oneS2 (i := 0) rfl (by kernel_rfl) (by rfl) (fun K hK => ?_)
          go_simp
          go_at_call 19
          refine (awake9 _).mono ?_
          rintro e w18 ⟨rfl, hb18⟩
          have H18 := Lib.hid (H17d.out.below hb18)
          have HRC18 := Lib.hid (HRC17d.out.below hb18)
          refine hK.out _ _ (fun x => R6 x (w.heap.size + 1) 0 r' ma' lm' mc' ea' le' ec') (fun _ h => h) (hSw.below hb18) ?_
          clear hK K
          clear hb18 hSw H17d HRC17d
          have hSw := FX.out.b6.below H18.out.bel
          refine wpAnyH_tkS2 (i := 1) 148 (v := ?_) rfl rfl (by kernel_rfl) (by kernel_rfl) (by kernel_rfl) (by rfl) hSw (fun wq hwq => ?_) ?_
          rotate_left
          · (have hx := True.intro; go_simp <;> with_reducible rfl)
          simp only [List.setIfInBounds_toArray, List.set_cons_zero, List.set_cons_succ]
          refine wpAnyH_tkS2 (i := 2) 149 (v := ?_) rfl rfl (by kernel_rfl) (by kernel_rfl) (by kernel_rfl) (by rfl) hSw (fun wq hwq => ?_) ?_
          rotate_left
          · (have hx := True.intro; go_simp <;> with_reducible rfl)
          simp only [List.setIfInBounds_toArray, List.set_cons_zero, List.set_cons_succ]
          refine wpAnyH_tkS2 (i := 3) 150 (v := ?_) rfl rfl (by kernel_rfl) (by kernel_rfl) (by kernel_rfl) (by rfl) hSw (fun wq hwq => ?_) ?_
          rotate_left
          · (have hx := True.intro; go_simp <;> with_reducible rfl)
          simp only [List.setIfInBounds_toArray, List.set_cons_zero, List.set_cons_succ]
          refine wpAnyH_tkS2 (i := 4) 151 (v := ?_) rfl rfl (by kernel_rfl) (by kernel_rfl) (by kernel_rfl) (by rfl) hSw (fun wq hwq => ?_) ?_
          rotate_left
          · (have hx := True.intro; go_simp <;> with_reducible rfl)
          simp only [List.setIfInBounds_toArray, List.set_cons_zero, List.set_cons_succ]
          refine wpAnyH_tkS2 (i := 5) 152 (v := ?_) rfl rfl (by kernel_rfl) (by kernel_rfl) (by kernel_rfl) (by rfl) hSw (fun wq hwq => ?_) ?_
          rotate_left
          · (have hx := True.intro; go_simp <;> with_reducible rfl)
          simp only [List.setIfInBounds_toArray, List.set_cons_zero, List.set_cons_succ]
          refine wpAnyH_tkS2 (i := 6) 153 (v := ?_) rfl rfl (by kernel_rfl) (by kernel_rfl) (by kernel_rfl) (by rfl) hSw (fun wq hwq => ?_) ?_
          rotate_left
          · (have hx := True.intro; go_simp <;> with_reducible rfl)
          simp only [List.setIfInBounds_toArray, List.set_cons_zero, List.set_cons_succ]
          refine wpAnyH_tkS2 (i := 7) 154 (v := ?_) rfl rfl (by kernel_rfl) (by kernel_rfl) (by kernel_rfl) (by rfl) hSw (fun wq hwq => ?_) ?_
          rotate_left
          · (have hx := True.intro; go_simp <;> with_reducible rfl)
          simp only [List.setIfInBounds_toArray, List.set_cons_zero, List.set_cons_succ]
          refine wpAnyH_tkS2 (i := 8) 155 (v := ?_) rfl rfl (by kernel_rfl) (by kernel_rfl) (by kernel_rfl) (by rfl) hSw (fun wq hwq => ?_) ?_
          rotate_left
          · (have hx := True.intro; go_simp <;> with_reducible rfl)
          simp only [List.setIfInBounds_toArray, List.set_cons_zero, List.set_cons_succ]
          refine wpAnyH_tkS2 (i := 9) 156 (v := ?_) rfl rfl (by kernel_rfl) (by kernel_rfl) (by kernel_rfl) (by rfl) hSw (fun wq hwq => ?_) ?_
          rotate_left
          · (have hx := True.intro; go_simp <;> with_reducible rfl)
          simp only [List.setIfInBounds_toArray, List.set_cons_zero, List.set_cons_succ]
          refine wpAnyH_tkS2 (i := 10) 157 (v := ?_) rfl rfl (by kernel_rfl) (by kernel_rfl) (by kernel_rfl) (by rfl) hSw (fun wq hwq => ?_) ?_
          rotate_left
          · (have hx := True.intro; go_simp <;> with_reducible rfl)
          simp only [List.setIfInBounds_toArray, List.set_cons_zero, List.set_cons_succ]
          refine wpAnyH_tkS2 (i := 12) 159 (v := ?_) rfl rfl (by kernel_rfl) (by kernel_rfl) (by kernel_rfl) (by rfl) hSw (fun wq hwq => ?_) ?_
          rotate_left
          · (have hx := True.intro; go_simp <;> with_reducible rfl)
          simp only [List.setIfInBounds_toArray, List.set_cons_zero, List.set_cons_succ]
          refine wpAnyH_tkS2 (i := 13) 160 (v := ?_) rfl rfl (by kernel_rfl) (by kernel_rfl) (by kernel_rfl) (by rfl) hSw (fun wq hwq => ?_) ?_
          rotate_left
          · (have x0 := hwq.c0; have x1 := hwq.c1; have x2 := hwq.c2; have x3 := hwq.c3; have x4 := hwq.c4; have x5 := hwq.c5; go_simp <;> with_reducible rfl)
          simp only [List.setIfInBounds_toArray, List.set_cons_zero, List.set_cons_succ]
          have HXN18 : Hid (Rob 0 w.heap.size w18 (Rl.ok ⟨r', ma', mc', ea', ec', 0, w.heap.size⟩)) := rob_old (fun w' hb => RecAt.below HR0'.out hb) (Ext.trans EZ.out H18.out.bel)
          have HSZ18 : Hid (w.heap.size ≤ wz.heap.size ∧ wz.heap.size ≤ w18.heap.size) := ⟨HWZ.out, H18.out.bel.size⟩
          refine wpAnyH_twoS2 (i := 11) (j := 14) rfl rfl (by kernel_rfl) (by rfl) (by rfl) (fun K hK => ?_) (fun K hK => ?_)
          · go_simp
            refine (bkRecords_any wz.heap.size RB3 R a17 ga17 _ ((zs ++ [(⟨r', ma', mc', ea', ec', 0, w.heap.size⟩ : Rl)]).map encX) F17 _ H18.out.bk (by rw [HZL2.out]; omega) (fun c hc => by obtain ⟨z, hz, rfl⟩ := List.mem_map.mp hc; exact ⟨(HNG1.out z hz).enc.1, by have := (HNG1.out z hz).len; omega⟩)).mono ?_
            rintro e w19 ⟨vx, vxc, xs2, rfl, hx2, hrc2, hlo2, hb19⟩
            rw [good_decs _ HNG1.out] at hx2
            rw [HZL2.out]
            have HX2 := Lib.hid hx2
            have HRX := Lib.hid hrc2
            have HLX := Lib.hid hlo2
            have H19 := Lib.hid (H18.out.below hb19)
            have HRC19 := Lib.hid (HRC18.out.below hb19)
            have HXN19 := Lib.hid (HXN18.out.chg (gs := []) (Chg.of_below hb19) (by simp))
            refine hK.out _ _ (fun x => R6 x (w.heap.size + 1) 0 r' ma' lm' mc' ea' le' ec') (fun _ h => h) (FX.out.b6.below H19.out.bel) ?_
            clear hK K
            have hs19 := hb19.size
            clear hSw hx2 hrc2 hlo2 hb19
            refine wpAnyH_oneS2 (i := 14) rfl (by kernel_rfl) (by rfl) (fun K hK => ?_)
            go_simp
            have hb20 := below_one w19 (.cells #[.int .i64 r'.kind, .int .i64 r'.epoch, .slice ma' lm' mc', .int .i64 r'.pos, .int .i64 r'.last, .slice ea' le' ec'] 36)
            have HA20 := Lib.hid (rca_box r' ma' ea' mc' ec' 0 w.heap.size lm' le' w19.heap.size HLM'.out HLE'.out rfl HXN19.out)
            have H20 := Lib.hid (H19.out.below hb20)
            have HRC20 := Lib.hid (HRC19.out.below hb20)
            have HRX20 := Lib.hid (HRX.out.at_.below hb20)
            refine hK.out _ _ (fun x => R6 x (w.heap.size + 1) 0 r' ma' lm' mc' ea' le' ec') (fun _ h => h) (FX.out.b6.below H20.out.bel) ?_
            clear hK K
            have hs20 := hb20.size
            clear hb20
            generalize (w19.alloc (.cells #[.int .i64 r'.kind, .int .i64 r'.epoch, .slice ma' lm' mc', .int .i64 r'.pos, .int .i64 r'.last, .slice ea' le' ec'] 36)) = w20 at *
            refine wpAnyH_oneS2 (i := 15) rfl (by kernel_rfl) (by rfl) (fun K hK => ?_)
            refine wp_appRec (.tmp 159) (.tmp 161) rfl wz.heap.size vg vgc _ gs HGL.out rfl HRC20.out (some ⟨w19.heap.size, 0, none⟩) 1 1 [(⟨r', ma', mc', ea', ec', 0, w.heap.size⟩ : Rl)] rfl rfl HA20.out (by omega) (by have := HSZ18.out.2; omega) (fun y hy => by rw [List.mem_singleton.mp hy]; have h5 := HSZ18.out; exact ⟨by show w.heap.size ≤ _; omega, fun g hg => .inr (by have h4 := (HRC20.out.lt hg).1; show w.heap.size ≤ g; omega)⟩) ?_
            intro va21 vc21 w21 ho chg hat
            have HQ21 := Lib.hid ho.at_
            have HRX21 := Lib.hid (HRX20.out.chg chg (fun g hg e => by have h1 := (HRX.out.lt hg).1; have h2 := (HRC18.out.lt e).2; omega) (fun x hx g hg => by have h1 := HLX.out x hx; have h2 := (HRC18.out.lt hg).2; left; omega))
            have EB21 : Hid (Below wz.heap.size wz w21) := chg.below H20.out.bel H20.out.bel.size (fun g hg => (HRC20.out.lt hg).1)
            clear ho chg hat
            go_simp
            refine hK.out _ _ (fun x => R6 x (w.heap.size + 1) 0 r' ma' lm' mc' ea' le' ec') (fun _ h => h) (FX.out.b6.below EB21.out) ?_
            clear hK K
            refine wpAnyH_oneS2 (i := 16) rfl (by kernel_rfl) (by rfl) (fun K hK => ?_)
            go_simp
            refine (sameRecs_any _ _ _ _ _ xs2 _ _ (by rw [xs_len HX2.out, List.length_map]; have := HZL2.out; rw [List.length_map] at this; exact this) HRX21.out (by rw [List.length_append, HGL.out]; rfl) HQ21.out (xs_mem HX2.out (fun q hq => by obtain ⟨z, hz, rfl⟩ := List.mem_map.mp hq; exact (HNG1.out z hz).small)) HSM2.out).mono ?_
            rw [encX_map xs2, HX2.out, ← encX_map, HGE.out, decide_eq_true rfl]
            rintro e w22 ⟨rfl, hb22⟩
            have EF : Hid (Below w.heap.size w w22) := Ext.trans EZ.out (EB21.out.trans (hb22.mono EB21.out.size))
            refine hK.out _ _ (fun x => R6 x (w.heap.size + 1) 0 r' ma' lm' mc' ea' le' ec') (fun _ h => h) (FX.out.b6.below (EB21.out.trans (hb22.mono EB21.out.size))) ?_
            clear hK K
            have hSw := FX.out.b6.below (EB21.out.trans (hb22.mono EB21.out.size))
            refine wpAnyH_tkS2 (i := 17) 164 (v := ?_) rfl rfl (by kernel_rfl) (by kernel_rfl) (by kernel_rfl) (by rfl) hSw (fun wq hwq => ?_) ?_
            rotate_left
            · (have hx := True.intro; go_simp <;> with_reducible rfl)
            simp only [List.setIfInBounds_toArray, List.set_cons_zero, List.set_cons_succ]
            refine wpAnyH_tkS2 (i := 18) 8 (v := ?_) rfl rfl (by kernel_rfl) (by kernel_rfl) (by kernel_rfl) (by rfl) hSw (fun wq hwq => ?_) ?_
            rotate_left
            · (have hx := True.intro; go_simp <;> with_reducible rfl)
            simp only [List.setIfInBounds_toArray, List.set_cons_zero, List.set_cons_succ]
            refine wpAnyH_done (by kernel_rfl) ?_ _
            refine NoPanic.normal ?_
            go_wp2
            go_ret
            exact ⟨rfl, EF.out⟩
          · go_simp
            have hb19 := below_one w18 (.cells #[.int .i64 r'.kind, .int .i64 r'.epoch, .slice ma' lm' mc', .int .i64 r'.pos, .int .i64 r'.last, .slice ea' le' ec'] 36)
            have HA19 := Lib.hid (rca_box r' ma' ea' mc' ec' 0 w.heap.size lm' le' w18.heap.size HLM'.out HLE'.out rfl HXN18.out)
            have H19 := Lib.hid (H18.out.below hb19)
            have HRC19 := Lib.hid (HRC18.out.below hb19)
            refine hK.out _ _ (fun x => R6 x (w.heap.size + 1) 0 r' ma' lm' mc' ea' le' ec') (fun _ h => h) (FX.out.b6.below H19.out.bel) ?_
            clear hK K
            have hs19 := hb19.size
            clear hSw hb19
            generalize (w18.alloc (.cells #[.int .i64 r'.kind, .int .i64 r'.epoch, .slice ma' lm' mc', .int .i64 r'.pos, .int .i64 r'.last, .slice ea' le' ec'] 36)) = w19 at *
            refine wpAnyH_oneS2 (i := 11) rfl (by kernel_rfl) (by rfl) (fun K hK => ?_)
            go_simp
            refine (bkRecords_any wz.heap.size RB3 R a17 ga17 _ ((zs ++ [(⟨r', ma', mc', ea', ec', 0, w.heap.size⟩ : Rl)]).map encX) F17 _ H19.out.bk (by rw [HZL2.out]; omega) (fun c hc => by obtain ⟨z, hz, rfl⟩ := List.mem_map.mp hc; exact ⟨(HNG1.out z hz).enc.1, by have := (HNG1.out z hz).len; omega⟩)).mono ?_
            rintro e w20 ⟨vx, vxc, xs2, rfl, hx2, hrc2, hlo2, hb20⟩
            rw [good_decs _ HNG1.out] at hx2
            rw [HZL2.out]
            have HX2 := Lib.hid hx2
            have HRX := Lib.hid hrc2
            have HLX := Lib.hid hlo2
            have H20 := Lib.hid (H19.out.below hb20)
            have HRC20 := Lib.hid (HRC19.out.below hb20)
            have HRX20 := Lib.hid hrc2.at_
            have HA20 := Lib.hid (HA19.out.below hb20)
            refine hK.out _ _ (fun x => R6 x (w.heap.size + 1) 0 r' ma' lm' mc' ea' le' ec') (fun _ h => h) (FX.out.b6.below H20.out.bel) ?_
            clear hK K
            have hs20 := hb20.size
            clear hx2 hrc2 hlo2 hb20
            refine wpAnyH_oneS2 (i := 15) rfl (by kernel_rfl) (by rfl) (fun K hK => ?_)
            refine wp_appRec (.tmp 159) (.tmp 161) rfl wz.heap.size vg vgc _ gs HGL.out rfl HRC20.out (some ⟨w18.heap.size, 0, none⟩) 1 1 [(⟨r', ma', mc', ea', ec', 0, w.heap.size⟩ : Rl)] rfl rfl HA20.out (by omega) (by have := HSZ18.out.2; omega) (fun y hy => by rw [List.mem_singleton.mp hy]; have h5 := HSZ18.out; exact ⟨by show w.heap.size ≤ _; omega, fun g hg => .inr (by have h4 := (HRC20.out.lt hg).1; show w.heap.size ≤ g; omega)⟩) ?_
            intro va21 vc21 w21 ho chg hat
            have HQ21 := Lib.hid ho.at_
            have HRX21 := Lib.hid (HRX20.out.chg chg (fun g hg e => by have h1 := (HRX.out.lt hg).1; have h2 := (HRC18.out.lt e).2; omega) (fun x hx g hg => by have h1 := HLX.out x hx; have h2 := (HRC18.out.lt hg).2; left; omega))
            have EB21 : Hid (Below wz.heap.size wz w21) := chg.below H20.out.bel H20.out.bel.size (fun g hg => (HRC20.out.lt hg).1)
            clear ho chg hat
            go_simp
            refine hK.out _ _ (fun x => R6 x (w.heap.size + 1) 0 r' ma' lm' mc' ea' le' ec') (fun _ h => h) (FX.out.b6.below EB21.out) ?_
            clear hK K
            refine wpAnyH_oneS2 (i := 16) rfl (by kernel_rfl) (by rfl) (fun K hK => ?_)
            go_simp
            refine (sameRecs_any _ _ _ _ _ xs2 _ _ (by rw [xs_len HX2.out, List.length_map]; have := HZL2.out; rw [List.length_map] at this; exact this) HRX21.out (by rw [List.length_append, HGL.out]; rfl) HQ21.out (xs_mem HX2.out (fun q hq => by obtain ⟨z, hz, rfl⟩ := List.mem_map.mp hq; exact (HNG1.out z hz).small)) HSM2.out).mono ?_
            rw [encX_map xs2, HX2.out, ← encX_map, HGE.out, decide_eq_true rfl]
            rintro e w22 ⟨rfl, hb22⟩
            have EF : Hid (Below w.heap.size w w22) := Ext.trans EZ.out (EB21.out.trans (hb22.mono EB21.out.size))
            refine hK.out _ _ (fun x => R6 x (w.heap.size + 1) 0 r' ma' lm' mc' ea' le' ec') (fun _ h => h) (FX.out.b6.below (EB21.out.trans (hb22.mono EB21.out.size))) ?_
            clear hK K
            have hSw := FX.out.b6.below (EB21.out.trans (hb22.mono EB21.out.size))
            refine wpAnyH_tkS2 (i := 17) 164 (v := ?_) rfl rfl (by kernel_rfl) (by kernel_rfl) (by kernel_rfl) (by rfl) hSw (fun wq hwq => ?_) ?_
            rotate_left
            · (have hx := True.intro; go_simp <;> with_reducible rfl)
            simp only [List.setIfInBounds_toArray, List.set_cons_zero, List.set_cons_succ]
            refine wpAnyH_tkS2 (i := 18) 8 (v := ?_) rfl rfl (by kernel_rfl) (by kernel_rfl) (by kernel_rfl) (by rfl) hSw (fun wq hwq => ?_) ?_
            rotate_left
            · (have hx := True.intro; go_simp <;> with_reducible rfl)
            simp only [List.setIfInBounds_toArray, List.set_cons_zero, List.set_cons_succ]
            refine wpAnyH_done (by kernel_rfl) ?_ _
            refine NoPanic.normal ?_
            go_wp2
            go_ret
            exact ⟨rfl, EF.out⟩
      · skip
        obtain ⟨K, hK⟩ : ∃ K : Nat, (N : Int) % 600 = (K : Int) := ⟨N % 600, by omega⟩
        have HE0L : Hid ((frms (ys.map encX)).length ≤ 18720) := by have := good_frms ys (fun y hy => (HT.out.each y hy).1); rw [HN.out] at this; show _ ≤ _; omega
        go_wp2_with fail
        refine (disk_tear wz.heap.size R a _ _ _ HT.out.st.bk.dsk).mono ?_
        rw [show ((K : Nat) : Int).toNat = K from rfl]
        rintro e w8 ⟨rfl, hd8, hg8⟩
        have h8 := HT.out.st.done hd8 hg8
        have H8 : Hid (St wz w8 RB R a ga ⟨frms (ys.map encX), 1048576, false, true, K⟩ (ys.map encX) F) := h8.1
        have HO8 := Lib.hid (HT.out.own.chg h8.2.chg (fun g hg => (HT.out.ap g hg).1) (fun x hx g hg => .inr (by rw [(HT.out.each x hx).2.2]; exact Nat.le_trans HT.out.wz (HT.out.st.bk.mLt hg).1)))
        have HA8 : Hid (∀ g ∈ blk va, g ∉ bkM RB R a ga) := fun g hg => (HT.out.ap g hg).1
        have HYS := Lib.hid HT.out.each
        have HWZ := Lib.hid HT.out.wz
        clear hd8 hg8 h8 HT
        have HCL : Hid ((ys.map encX).length ≤ 100000000) := by show _ ≤ _; rw [List.length_map, HN.out]; omega
        have HB5 := Lib.hid (FX.out.b5.below H8.out.bel)
        have x0 := HB5.out.c0
        have x1 := HB5.out.c1
        have x2 := HB5.out.c2
        have x3 := HB5.out.c3
        have x4 := HB5.out.c4
        have x5 := HB5.out.c5
        go_wp2_with fail
        obtain ⟨P, hP⟩ : ∃ P, P = (if (frm (encR r)).length ≤ K then frms (ys.map encX) ++ frm (encR r) else frms (ys.map encX) ++ (frm (encR r)).take K) := ⟨_, rfl⟩
        have HP := Lib.hid hP
        refine (bkAppend_yes wz.heap.size RB R a ga _ (ys.map encX) F _ _ _ _ _ _ r _ H8.out.bk HCL.out (FX.out.ok.below H8.out.bel) HLM.out HLE.out HS3.out).mono ?_
        rw [wrt_tear _ _ _ (by rw [frm_len]; have := HE0L.out; have := HCR.out; omega), ← hP]
        rintro e w9 ⟨rfl, a9, ga9, F9, hk9, hm9, -⟩
        have hk9' : Bk w9 wz.heap.size RB R a9 ga9 ⟨P, 1048576, true, true, K⟩ (ys.map encX) F9 := hk9
        have H9 := Lib.hid (H8.out.mv hk9' hm9)
        have HO9 := Lib.hid (HO8.out.chg hm9.chg HA8.out (fun x hx g hg => .inr (by rw [(HYS.out x hx).2.2]; exact Nat.le_trans HWZ.out (H8.out.bk.mLt hg).1)))
        have HA9 : Hid (∀ g ∈ blk va, g ∉ bkM RB R a9 ga9) := fun g hg => hm9.off (HA8.out g hg) (HO8.out.lt hg).2
        clear x0 x1 x2 x3 x4 x5
        clear hk9 hk9' hm9 H8 HO8 HA8 HB5 hP
        go_wp2_with fail
        refine (disk_start wz.heap.size R a9 _ _ H9.out.bk.dsk).mono ?_
        rintro e w10 ⟨rfl, hd10, hg10⟩
        have h10 := H9.out.done hd10 hg10
        have HD10 : Hid (Dsk w10 wz.heap.size R a9 ⟨P, 1048576, false, false, K⟩) := hd10
        have H10 := Lib.hid h10.1
        have HO10 := Lib.hid (HO9.out.chg h10.2.chg HA9.out (fun x hx g hg => .inr (by rw [(HYS.out x hx).2.2]; exact Nat.le_trans HWZ.out (H9.out.bk.mLt hg).1)))
        clear h10 hd10 hg10 H9 HO9
        go_wp2_with fail
        refine (bkOpen_any wz.heap.size R a9 _ _ HD10.out rfl rfl).mono ?_
        rintro e w11 ⟨RB2, a11, ga11, cs, rest, F11, rfl, hv11, hk11, hm11⟩
        have hm11' := hm11.opened (RB := RB) (ga := ga9)
        have H11 : Hid (St wz w11 RB2 R a11 ga11 ⟨frms cs, 1048576, false, false, K⟩ cs F11) := H10.out.mv hk11 hm11'
        have HO11 := Lib.hid (HO10.out.chg hm11'.chg HA9.out (fun x hx g hg => .inr (by rw [(HYS.out x hx).2.2]; exact Nat.le_trans HWZ.out (H10.out.bk.mLt hg).1)))
        have HA11 : Hid (∀ g ∈ blk va, g ∉ bkM RB2 R a11 ga11) := fun g hg => hm11'.off (HA9.out g hg) (HO10.out.lt hg).2
        have HXG : Hid (GoodX ⟨r, ma, mc, ea, ec, 0, w.heap.size⟩) := ⟨HS3.out, by show r.ents.length ≤ 6; rw [HLE.out]; exact s1.1, HWF.out.1⟩
        have HNG : Hid (GoodX ⟨r', ma', mc', ea', ec', 0, w.heap.size⟩) := ⟨HS4.out, by show r'.ents.length ≤ 6; rw [HLE'.out]; exact s2.1, HWF.out.2⟩
        have hz := tear_cases ys ⟨r, ma, mc, ea, ec, 0, w.heap.size⟩ K P cs rest (fun y hy => (HYS.out y hy).1) HXG.out HP.out hv11
        have HZ := Lib.hid hz
        clear hz hk11 hm11 hm11' hv11 H10 HO10 HA9 HD10
        go_upto_region 20 with fail
        go_cut [16] (fun s wx => ∃ (vw : Option Addr) (vwc : Nat), s = .slice vw (n + 1) vwc ∧ Hid (RcA wx vw vwc (ys ++ [(⟨r, ma, mc, ea, ec, 0, w.heap.size⟩ : Rl)])) ∧ Hid (Ext w11 wx))
        case first =>
          rename_i JJ KK hJJ hKK
          refine wp_region_S2 (Ext w11.drew) (by kernel_rfl) ?_
          have hSw := Ext.refl w11.drew
          have EW : Hid (Ext w11 w11.drew) := Below.drew (Below.refl _ w11)
          have HYW := Lib.hid (HO11.out.at_.below EW.out)
          have HXW : Hid (Rob 0 w.heap.size w11.drew (Rl.ok ⟨r, ma, mc, ea, ec, 0, w.heap.size⟩)) := rob_old (fun w' hb => RecAt.below HR0.out hb) (Ext.trans EZ.out (Ext.trans H11.out.bel EW.out))
          have HB5 := Lib.hid (FX.out.b5.below (Ext.trans H11.out.bel EW.out))
          have HSZ : Hid (w.heap.size ≤ w11.drew.heap.size) := Nat.le_trans HWZ.out (Ext.trans H11.out.bel EW.out).size
          generalize w11.drew = W at *
          have HW0' : Hid (∃ L, W.heap.size = L) := ⟨_, rfl⟩
          obtain ⟨L0, hL0⟩ := HW0'.out
          have HW0 := Lib.hid hL0
          have HYH : Hid (∀ y ∈ ys, y.hi ≤ L0) := fun y hy => by rw [(HYS.out y hy).2.2, ← hL0]; exact HSZ.out
          rw [hL0] at HSZ
          have HWB := EW
          have EW0 := Lib.hid (Ext.refl W)
          have HY0 := HYW
          have HX0 := HXW
          clear EW HYW HXW hL0 HW0'
          refine wpAnyH_tkS2 (i := 1) 107 (v := ?_) rfl rfl (by kernel_rfl) (by kernel_rfl) (by kernel_rfl) (by rfl) hSw (fun wq hwq => ?_) ?_
          rotate_left
          · (have hx := True.intro; go_simp <;> with_reducible rfl)
          simp only [List.setIfInBounds_toArray, List.set_cons_zero, List.set_cons_succ]
          refine wpAnyH_tkS2 (i := 3) 109 (v := ?_) rfl rfl (by kernel_rfl) (by kernel_rfl) (by kernel_rfl) (by rfl) hSw (fun wq hwq => ?_) ?_
          rotate_left
          · (have hx := (HB5.out).below hwq; have x0 := hx.c0; have x1 := hx.c1; have x2 := hx.c2; have x3 := hx.c3; have x4 := hx.c4; have x5 := hx.c5; go_simp <;> with_reducible rfl)
          simp only [List.setIfInBounds_toArray, List.set_cons_zero, List.set_cons_succ]
          refine wpAnyH_twoS2 (i := 0) (j := 4) rfl rfl (by kernel_rfl) (by rfl) (by rfl) (fun K hK => ?_) (fun K hK => ?_)
          · go_simp
            rw [HW0.out]
            have HR1 := Lib.hid (rcs_lit W L0 L0 (HW0.out) (by have := EW0.out.size; have := HW0.out; omega))
            have hb := below_one W (.cells #[] 36)
            have HY1 := Lib.hid (HY0.out.below hb)
            have HX1 := Lib.hid (HX0.out.chg (gs := []) (Chg.of_below hb) (by simp))
            have EW1 := Lib.hid (Ext.trans EW0.out hb)
            refine hK.out _ _ (Ext W) (fun _ h => h) (EW1.out) ?_
            clear hK K
            clear hb
            have hSw := EW1.out
            have HLT : Hid (L0 < (W.alloc (.cells #[] 36)).heap.size) := by show _ < _; rw [← HW0.out]; simp
            generalize (W.alloc (.cells #[] 36)) = W1 at *
            refine wpAnyH_twoS2 (i := 2) (j := 4) rfl rfl (by kernel_rfl) (by rfl) (by rfl) (fun K hK => ?_) (fun K hK => ?_)
            · skip
              refine wp_appRec (.tmp 106) (.tmp 107) rfl L0 (some ⟨L0, 0, none⟩) 0 0 [] rfl rfl HR1.out va n vc ys HN.out rfl HY1.out (by omega) (by have := EW1.out.size; have := HW0.out; omega) (fun y hy => by have h1 := HYH.out y hy; have h2 := EW1.out.size; have h3 := HW0.out; have h4 := (HR1.out.lt (g := L0) (by simp [blk])).1; exact ⟨by omega, fun g hg => by simp [blk] at hg; subst hg; right; omega⟩) ?_
              intro va2 vc2 w2 ho chg hat
              rw [List.nil_append] at ho
              rw [Nat.zero_add]
              have HO2 := Lib.hid ho
              have CH2 := Lib.hid chg
              have EW2 : Hid (Ext W w2) := chg.below EW1.out EW1.out.size (fun g hg => by have h1 := (HR1.out.lt hg).1; have h2 := HW0.out; omega)
              have HX2 := Lib.hid (HX1.out.chg chg (fun g hg => .inr (by have h1 := (HR1.out.lt hg).1; have h2 := HSZ.out; omega)))
              clear ho chg hat
              go_simp
              refine hK.out _ _ (Ext W) (fun _ h => h) (EW2.out) ?_
              clear hK K
              have hSw := EW2.out
              refine wpAnyH_oneS2 (i := 4) rfl (by kernel_rfl) (by rfl) (fun K hK => ?_)
              go_simp
              have HY2 := Lib.hid HO2.out.at_
              have HA3 := Lib.hid (rca_box r ma ea mc ec 0 w.heap.size lm le w2.heap.size HLM.out HLE.out (rfl) HX2.out)
              have hb := below_one w2 (.cells #[.int .i64 r.kind, .int .i64 r.epoch, .slice ma lm mc, .int .i64 r.pos, .int .i64 r.last, .slice ea le ec] 36)
              have HY3 := Lib.hid (HY2.out.below hb)
              have HX3 := Lib.hid (HX2.out.chg (gs := []) (Chg.of_below hb) (by simp))
              have EW3 := Lib.hid (Ext.trans EW2.out hb)
              refine hK.out _ _ (Ext W) (fun _ h => h) (EW3.out) ?_
              clear hK K
              clear hb
              have hSw := EW3.out
              have HO3 := Lib.hid (HO2.out.below (below_one w2 (.cells #[.int .i64 r.kind, .int .i64 r.epoch, .slice ma lm mc, .int .i64 r.pos, .int .i64 r.last, .slice ea le ec] 36)))
              refine wpAnyH_oneS2 (i := 5) rfl (by kernel_rfl) (by rfl) (fun K hK => ?_)
              refine wp_appRec (.tmp 108) (.tmp 110) rfl L0 va2 vc2 n ys HN.out rfl HO3.out (some ⟨w2.heap.size, 0, none⟩) 1 1 [⟨r, ma, mc, ea, ec, 0, w.heap.size⟩] rfl rfl HA3.out (by omega) (by have := EW3.out.size; have := HW0.out; omega) (fun y hy => by rw [List.mem_singleton.mp hy]; have h2 := EW3.out.size; have h3 := HW0.out; have h5 := HSZ.out; exact ⟨by show w.heap.size ≤ _; omega, fun g hg => .inr (by have h4 := (HO3.out.lt hg).1; show w.heap.size ≤ g; omega)⟩) ?_
              intro va4 vc4 w4 ho chg hat
              have HQ4 := Lib.hid ho.at_
              have HN4 : Hid (∀ g ∈ blk va4, L0 ≤ g ∧ g < w4.heap.size) := fun g hg => ho.lt hg
              have EW4 : Hid (Ext W w4) := chg.below EW3.out EW3.out.size (fun g hg => by have h1 := (HO3.out.lt hg).1; have h2 := HW0.out; omega)
              clear ho chg hat
              go_simp
              refine hK.out _ _ (Ext W) (fun _ h => h) (EW4.out) ?_
              clear hK K
              have hSw := EW4.out
              refine wpAnyH_tkS2 (i := 6) 16 (v := ?_) rfl rfl (by kernel_rfl) (by kernel_rfl) (by kernel_rfl) (by rfl) hSw (fun wq hwq => ?_) ?_
              rotate_left
              · (have hx := True.intro; go_simp <;> with_reducible rfl)
              simp only [List.setIfInBounds_toArray, List.set_cons_zero, List.set_cons_succ]
              refine wpAnyH_done (by kernel_rfl) ?_ _
              refine NoPanic.normal ?_
              have EXF := Lib.hid (Ext.trans HWB.out EW4.out)
              refine hKK _ _ (Met.intro (hJJ _ _ ?_))
              (repeat apply Exists.intro)
              exact ⟨⟨va4, vc4, rfl, HQ4, EXF⟩, rfl⟩
            · go_simp
              have HA2 := Lib.hid (rca_box r ma ea mc ec 0 w.heap.size lm le W1.heap.size HLM.out HLE.out (rfl) HX1.out)
              have hb := below_one W1 (.cells #[.int .i64 r.kind, .int .i64 r.epoch, .slice ma lm mc, .int .i64 r.pos, .int .i64 r.last, .slice ea le ec] 36)
              have HY2 := Lib.hid (HY1.out.below hb)
              have HX2 := Lib.hid (HX1.out.chg (gs := []) (Chg.of_below hb) (by simp))
              have EW2 := Lib.hid (Ext.trans EW1.out hb)
              refine hK.out _ _ (Ext W) (fun _ h => h) (EW2.out) ?_
              clear hK K
              clear hb
              have hSw := EW2.out
              have HR2 := Lib.hid (HR1.out.below (below_one W1 (.cells #[.int .i64 r.kind, .int .i64 r.epoch, .slice ma lm mc, .int .i64 r.pos, .int .i64 r.last, .slice ea le ec] 36)))
              generalize hW2 : (W1.alloc (.cells #[.int .i64 r.kind, .int .i64 r.epoch, .slice ma lm mc, .int .i64 r.pos, .int .i64 r.last, .slice ea le ec] 36)) = W2 at *
              refine wpAnyH_oneS2 (i := 2) rfl (by kernel_rfl) (by rfl) (fun K hK => ?_)
              refine wp_appRec (.tmp 106) (.tmp 107) rfl L0 (some ⟨L0, 0, none⟩) 0 0 [] rfl rfl HR2.out va n vc ys HN.out rfl HY2.out (by omega) (by have := EW2.out.size; have := HW0.out; omega) (fun y hy => by have h1 := HYH.out y hy; have h2 := EW2.out.size; have h3 := HW0.out; have h4 := (HR2.out.lt (g := L0) (by simp [blk])).1; exact ⟨by omega, fun g hg => by simp [blk] at hg; subst hg; right; omega⟩) ?_
              intro va3 vc3 w3 ho chg hat
              rw [List.nil_append] at ho
              rw [Nat.zero_add]
              have HO3 := Lib.hid ho
              have CH3 := Lib.hid chg
              have EW3 : Hid (Ext W w3) := chg.below EW2.out EW2.out.size (fun g hg => by have h1 := (HR2.out.lt hg).1; have h2 := HW0.out; omega)
              have HX3 := Lib.hid (HX2.out.chg chg (fun g hg => .inr (by have h1 := (HR2.out.lt hg).1; have h2 := HSZ.out; omega)))
              clear ho chg hat
              go_simp
              refine hK.out _ _ (Ext W) (fun _ h => h) (EW3.out) ?_
              clear hK K
              have hSw := EW3.out
              have HA3 := Lib.hid (HA2.out.chg CH3.out (by have := HLT.out; simp [blk]; omega) (fun x hx g hg => by rw [List.mem_singleton.mp hx]; have h1 := HSZ.out; simp [blk] at hg; subst hg; right; exact h1))
              refine wpAnyH_oneS2 (i := 5) rfl (by kernel_rfl) (by rfl) (fun K hK => ?_)
              refine wp_appRec (.tmp 108) (.tmp 110) rfl L0 va3 vc3 n ys HN.out rfl HO3.out (some ⟨W1.heap.size, 0, none⟩) 1 1 [⟨r, ma, mc, ea, ec, 0, w.heap.size⟩] rfl rfl HA3.out (by omega) (by have := EW3.out.size; have := HW0.out; omega) (fun y hy => by rw [List.mem_singleton.mp hy]; have h2 := EW3.out.size; have h3 := HW0.out; have h5 := HSZ.out; exact ⟨by show w.heap.size ≤ _; omega, fun g hg => .inr (by have h4 := (HO3.out.lt hg).1; show w.heap.size ≤ g; omega)⟩) ?_
              intro va4 vc4 w4 ho chg hat
              have HQ4 := Lib.hid ho.at_
              have HN4 : Hid (∀ g ∈ blk va4, L0 ≤ g ∧ g < w4.heap.size) := fun g hg => ho.lt hg
              have EW4 : Hid (Ext W w4) := chg.below EW3.out EW3.out.size (fun g hg => by have h1 := (HO3.out.lt hg).1; have h2 := HW0.out; omega)
              clear ho chg hat
              go_simp
              refine hK.out _ _ (Ext W) (fun _ h => h) (EW4.out) ?_
              clear hK K
              have hSw := EW4.out
              refine wpAnyH_tkS2 (i := 6) 16 (v := ?_) rfl rfl (by kernel_rfl) (by kernel_rfl) (by kernel_rfl) (by rfl) hSw (fun wq hwq => ?_) ?_
              rotate_left
              · (have hx := True.intro; go_simp <;> with_reducible rfl)
              simp only [List.setIfInBounds_toArray, List.set_cons_zero, List.set_cons_succ]
              refine wpAnyH_done (by kernel_rfl) ?_ _
              refine NoPanic.normal ?_
              have EXF := Lib.hid (Ext.trans HWB.out EW4.out)
              refine hKK _ _ (Met.intro (hJJ _ _ ?_))
              (repeat apply Exists.intro)
              exact ⟨⟨va4, vc4, rfl, HQ4, EXF⟩, rfl⟩
          · go_simp
            rw [HW0.out]
            have HA1 := Lib.hid (rca_box r ma ea mc ec 0 w.heap.size lm le L0 HLM.out HLE.out (HW0.out) HX0.out)
            have hb := below_one W (.cells #[.int .i64 r.kind, .int .i64 r.epoch, .slice ma lm mc, .int .i64 r.pos, .int .i64 r.last, .slice ea le ec] 36)
            have HY1 := Lib.hid (HY0.out.below hb)
            have HX1 := Lib.hid (HX0.out.chg (gs := []) (Chg.of_below hb) (by simp))
            have EW1 := Lib.hid (Ext.trans EW0.out hb)
            refine hK.out _ _ (Ext W) (fun _ h => h) (EW1.out) ?_
            clear hK K
            clear hb
            have hSw := EW1.out
            have HLT : Hid (L0 < (W.alloc (.cells #[.int .i64 r.kind, .int .i64 r.epoch, .slice ma lm mc, .int .i64 r.pos, .int .i64 r.last, .slice ea le ec] 36)).heap.size) := by show _ < _; rw [← HW0.out]; simp
            generalize (W.alloc (.cells #[.int .i64 r.kind, .int .i64 r.epoch, .slice ma lm mc, .int .i64 r.pos, .int .i64 r.last, .slice ea le ec] 36)) = W1 at *
            refine wpAnyH_oneS2 (i := 0) rfl (by kernel_rfl) (by rfl) (fun K hK => ?_)
            go_simp
            have HR2 := Lib.hid (rcs_lit W1 L0 W1.heap.size (rfl) (by have := EW1.out.size; have := HW0.out; omega))
            have hb := below_one W1 (.cells #[] 36)
            have HY2 := Lib.hid (HY1.out.below hb)
            have HX2 := Lib.hid (HX1.out.chg (gs := []) (Chg.of_below hb) (by simp))
            have EW2 := Lib.hid (Ext.trans EW1.out hb)
            refine hK.out _ _ (Ext W) (fun _ h => h) (EW2.out) ?_
            clear hK K
            clear hb
            have hSw := EW2.out
            have HA2 := Lib.hid (HA1.out.below (below_one W1 (.cells #[] 36)))
            generalize hW2 : (W1.alloc (.cells #[] 36)) = W2 at *
            refine wpAnyH_oneS2 (i := 2) rfl (by kernel_rfl) (by rfl) (fun K hK => ?_)
            refine wp_appRec (.tmp 106) (.tmp 107) rfl L0 (some ⟨W1.heap.size, 0, none⟩) 0 0 [] rfl rfl HR2.out va n vc ys HN.out rfl HY2.out (by omega) (by have := EW2.out.size; have := HW0.out; omega) (fun y hy => by have h1 := HYH.out y hy; have h2 := EW2.out.size; have h3 := HW0.out; have h4 := (HR2.out.lt (g := W1.heap.size) (by simp [blk])).1; exact ⟨by omega, fun g hg => by simp [blk] at hg; subst hg; right; omega⟩) ?_
            intro va3 vc3 w3 ho chg hat
            rw [List.nil_append] at ho
            rw [Nat.zero_add]
            have HO3 := Lib.hid ho
            have CH3 := Lib.hid chg
            have EW3 : Hid (Ext W w3) := chg.below EW2.out EW2.out.size (fun g hg => by have h1 := (HR2.out.lt hg).1; have h2 := HW0.out; omega)
            have HX3 := Lib.hid (HX2.out.chg chg (fun g hg => .inr (by have h1 := (HR2.out.lt hg).1; have h2 := HSZ.out; omega)))
            clear ho chg hat
            go_simp
            refine hK.out _ _ (Ext W) (fun _ h => h) (EW3.out) ?_
            clear hK K
            have hSw := EW3.out
            have HA3 := Lib.hid (HA2.out.chg CH3.out (by have := HLT.out; simp [blk]; omega) (fun x hx g hg => by rw [List.mem_singleton.mp hx]; have h1 := HSZ.out; have h2 := HLT.out; simp [blk] at hg; subst hg; right; show w.heap.size ≤ _; omega))
            refine wpAnyH_oneS2 (i := 5) rfl (by kernel_rfl) (by rfl) (fun K hK => ?_)
            refine wp_appRec (.tmp 108) (.tmp 110) rfl L0 va3 vc3 n ys HN.out rfl HO3.out (some ⟨L0, 0, none⟩) 1 1 [⟨r, ma, mc, ea, ec, 0, w.heap.size⟩] rfl rfl HA3.out (by omega) (by have := EW3.out.size; have := HW0.out; omega) (fun y hy => by rw [List.mem_singleton.mp hy]; have h2 := EW3.out.size; have h3 := HW0.out; have h5 := HSZ.out; exact ⟨by show w.heap.size ≤ _; omega, fun g hg => .inr (by have h4 := (HO3.out.lt hg).1; show w.heap.size ≤ g; omega)⟩) ?_
            intro va4 vc4 w4 ho chg hat
            have HQ4 := Lib.hid ho.at_
            have HN4 : Hid (∀ g ∈ blk va4, L0 ≤ g ∧ g < w4.heap.size) := fun g hg => ho.lt hg
            have EW4 : Hid (Ext W w4) := chg.below EW3.out EW3.out.size (fun g hg => by have h1 := (HO3.out.lt hg).1; have h2 := HW0.out; omega)
            clear ho chg hat
            go_simp
            refine hK.out _ _ (Ext W) (fun _ h => h) (EW4.out) ?_
            clear hK K
            have hSw := EW4.out
            refine wpAnyH_tkS2 (i := 6) 16 (v := ?_) rfl rfl (by kernel_rfl) (by kernel_rfl) (by kernel_rfl) (by rfl) hSw (fun wq hwq => ?_) ?_
            rotate_left
            · (have hx := True.intro; go_simp <;> with_reducible rfl)
            simp only [List.setIfInBounds_toArray, List.set_cons_zero, List.set_cons_succ]
            refine wpAnyH_done (by kernel_rfl) ?_ _
            refine NoPanic.normal ?_
            have EXF := Lib.hid (Ext.trans HWB.out EW4.out)
            refine hKK _ _ (Met.intro (hJJ _ _ ?_))
            (repeat apply Exists.intro)
            exact ⟨⟨va4, vc4, rfl, HQ4, EXF⟩, rfl⟩
        case rest =>
        obtain ⟨vw, vwc, rfl, HW, HEX⟩ := hcut
        obtain ⟨zs, hzs, hzg, hcase⟩ := HZ.out
        subst hzs
        obtain ⟨L, hL⟩ : ∃ L, (frm (encR r)).length = L := ⟨_, rfl⟩
        have HL := Lib.hid hL
        have hcase' : (zs = ys ++ [(⟨r, ma, mc, ea, ec, 0, w.heap.size⟩ : Rl)] ∧ L ≤ K) ∨ (zs = ys ∧ ¬ L ≤ K) := by rw [← hL]; exact hcase
        have HCS := Lib.hid hcase'
        have HZG := Lib.hid hzg
        obtain ⟨zn, hzn⟩ : ∃ q, zs.length = q := ⟨_, rfl⟩
        have HZN := Lib.hid hzn
        have hzn9 : zn ≤ 9 := by
          rw [← hzn]
          rcases hcase' with ⟨e, _⟩ | ⟨e, _⟩
          · rw [e, List.length_append, HN.out]; simp; omega
          · rw [e, HN.out]; omega
        have HZL : Hid ((zs.map encX).length = zn) := by show _ = _; rw [List.length_map]; exact hzn
        have HZF : Hid ((frms (zs.map encX)).length ≤ 21060) := by have := good_frms zs hzg; rw [hzn] at this; show _ ≤ _; omega
        have H12 := Lib.hid (H11.out.below HEX.out)
        have HO12 := Lib.hid (HO11.out.at_.below HEX.out)
        clear hL hcase hcase' hzg hzn HZ H11 HO11 HA11
        go_wp2_with fail
        refine (bkRecords_any wz.heap.size RB2 R a11 ga11 _ (zs.map encX) F11 _ H12.out.bk (by rw [HZL.out]; omega) (fun c hc => by obtain ⟨z, hz, rfl⟩ := List.mem_map.mp hc; exact ⟨(HZG.out z hz).enc.1, by have := (HZG.out z hz).len; omega⟩)).mono ?_
        rintro e w13 ⟨vg, vgc, gs, rfl, hgs, hrc, hlo, hb13⟩
        rw [good_decs zs HZG.out] at hgs
        rw [HZL.out]
        have HGS := Lib.hid hgs
        have HRC := Lib.hid (rcs_base hrc H12.out.bel.size)
        have HLO := Lib.hid hlo
        have H13 := Lib.hid (H12.out.below hb13)
        have HW13 := Lib.hid (HW.out.below hb13)
        have HO13 := Lib.hid (HO12.out.below hb13)
        have HM13 : Hid (∀ g ∈ bkM RB2 R a11 ga11, g ∉ blk vg ∧ ∀ x ∈ gs, g < x.lo ∨ x.hi ≤ g) := fun g hg => by
          have h1 := (H12.out.bk.mLt hg).2
          exact ⟨fun e => by have := (hrc.lt e).1; omega, fun x hx => by have := hlo x hx; left; omega⟩
        have HB5 := Lib.hid (FX.out.b5.below H13.out.bel)
        have HSM := Lib.hid (xs_mem hgs (P := Small) (fun q hq => by obtain ⟨z, hz, rfl⟩ := List.mem_map.mp hq; exact (HZG.out z hz).small))
        have HWC : Hid (wz.heap.size ≤ wc.heap.size) := H12.out.bel.size
        clear hgs hrc hlo hb13 H12 HW HO12
        have x0 := HB5.out.c0
        have x1 := HB5.out.c1
        have x2 := HB5.out.c2
        have x3 := HB5.out.c3
        have x4 := HB5.out.c4
        have x5 := HB5.out.c5
        go_wp2_with fail
        refine (lawFrame_any _ _ _ _ _ _ r _ (FX.out.ok.below H13.out.bel) HLM.out HLE.out (small_of HS3.out).med).mono ?_
        rintro e w14 ⟨g14, c14, rfl, _, hb14⟩
        rw [HL.out]
        have H14 := Lib.hid (H13.out.below hb14)
        have HW14 := Lib.hid (HW13.out.below hb14)
        have HO14 := Lib.hid (HO13.out.below hb14)
        have HRC14 := Lib.hid (HRC.out.below hb14)
        clear x0 x1 x2 x3 x4 x5
        clear hb14 H13 HW13 HO13 HRC HB5
        by_cases hw : L ≤ K
        · have d1 : decide ((L : Int) ≤ (K : Int)) = true := by simp; omega
          have d2 : decide (L ≤ K) = true := by simp; omega
          have hzz : zs = ys ++ [(⟨r, ma, mc, ea, ec, 0, w.heap.size⟩ : Rl)] := by
            rcases HCS.out with ⟨e, _⟩ | ⟨_, e⟩
            · exact e
            · exact absurd hw e
          have hz1 : zn = n + 1 := by rw [← HZN.out, hzz, List.length_append, HN.out]; rfl
          subst hz1
          have HWL : Hid ((ys ++ [(⟨r, ma, mc, ea, ec, 0, w.heap.size⟩ : Rl)]).length = n + 1) := by show _ = _; rw [List.length_append, HN.out]; rfl
          have HGL : Hid (gs.length = n + 1) := by show _ = _; rw [xs_len HGS.out, List.length_map]; exact HZN.out
          have HEQ : Hid (decide (gs.map encX = (ys ++ [(⟨r, ma, mc, ea, ec, 0, w.heap.size⟩ : Rl)]).map encX) = true) := decide_eq_true (by rw [← hzz, encX_map gs, HGS.out, ← encX_map])
          have HWS : Hid (∀ y ∈ ys ++ [(⟨r, ma, mc, ea, ec, 0, w.heap.size⟩ : Rl)], Small y.r) := fun y hy => by rw [← hzz] at hy; exact (HZG.out y hy).small
          clear hzz
          go_wp2_with fail
          refine (sameRecs_any _ _ _ _ (n + 1) gs _ _ HGL.out HRC14.out.at_ HWL.out HW14.out HSM.out HWS.out).mono ?_
          rw [HEQ.out]
          rintro e w15 ⟨rfl, hb15⟩
          have H15 := Lib.hid (H14.out.below hb15)
          have HRC15 := Lib.hid (HRC14.out.below hb15)
          clear hb15 H14 HRC14
          have HB6 := Lib.hid (FX.out.b6.below H15.out.bel)
          have x0 := HB6.out.c0
          have x1 := HB6.out.c1
          have x2 := HB6.out.c2
          have x3 := HB6.out.c3
          have x4 := HB6.out.c4
          have x5 := HB6.out.c5
          go_wp2_with fail
          refine (bkAppend_yes wz.heap.size RB2 R a11 ga11 _ (zs.map encX) F11 _ _ _ _ _ _ r' _ H15.out.bk (by rw [HZL.out]; omega) (FX.out.ok'.below H15.out.bel) HLM'.out HLE'.out HS4.out).mono ?_
          rw [wrt_more _ _ _ (by rw [frm_len]; have := HZF.out; have := HCN.out; omega)]
          rintro e w16 ⟨rfl, a16, ga16, F16, hk16, hm16, -⟩
          rw [if_pos rfl] at hk16
          have H16 := Lib.hid (H15.out.mv hk16 hm16)
          have HRM16 := Lib.hid (HRC15.out.mv hm16 HM13.out)
          clear x0 x1 x2 x3 x4 x5
          clear hk16 hm16 HB6 H15 HRC15
          have HNG1 : Hid (∀ z ∈ zs ++ [(⟨r', ma', mc', ea', ec', 0, w.heap.size⟩ : Rl)], GoodX z) := fun z hz => by
            rcases List.mem_append.mp hz with hz | hz
            · exact HZG.out z hz
            · rw [List.mem_singleton.mp hz]; exact HNG.out
          have HPE : Hid (frms (zs.map encX) ++ frm (encR r') = frms ((zs ++ [(⟨r', ma', mc', ea', ec', 0, w.heap.size⟩ : Rl)]).map encX)) := by show _ = _; rw [List.map_append, List.map_cons, List.map_nil, frms_snoc]; rfl
          go_wp2_with fail
          refine (bkOpen_any wz.heap.size R a16 _ _ H16.out.bk.dsk rfl rfl).mono ?_
          rintro e w17 ⟨RB3, a17, ga17, cs17, rest17, F17, rfl, hv17, hk17, hm17⟩
          dsimp only at hv17
          rw [HPE.out] at hv17
          obtain ⟨rfl, -⟩ := vld_whole _ _ _ (good_encs _ HNG1.out) hv17
          have H17 := Lib.hid (H16.out.mv hk17 (hm17.opened (RB := RB2) (ga := ga16)))
          have HRC17 := Lib.hid (HRM16.out.1.mv (hm17.opened (RB := RB2) (ga := ga16)) HRM16.out.2).1
          clear hk17 hm17 hv17 H16 HRM16
          have HZL2 : Hid (((zs ++ [(⟨r', ma', mc', ea', ec', 0, w.heap.size⟩ : Rl)]).map encX).length = n + 1 + 1) := by show _ = _; rw [List.length_map, List.length_append, HZN.out]; rfl
          have HSM2 : Hid (∀ x ∈ gs ++ [(⟨r', ma', mc', ea', ec', 0, w.heap.size⟩ : Rl)], Small x.r) := fun x hx => by
            rcases List.mem_append.mp hx with hx | hx
            · exact HSM.out x hx
            · rw [List.mem_singleton.mp hx]; exact HNG.out.small
          have HGE : Hid ((gs ++ [(⟨r', ma', mc', ea', ec', 0, w.heap.size⟩ : Rl)]).map encX = (zs ++ [(⟨r', ma', mc', ea', ec', 0, w.heap.size⟩ : Rl)]).map encX) := by
            show _ = _
            rw [List.map_append, List.map_append, encX_map gs, HGS.out, ← encX_map]
          go_upto_region 28 with fail
          refine wp_region_S2 (fun x => R6 x (w.heap.size + 1) 0 r' ma' lm' mc' ea' le' ec') (by kernel_rfl) ?_
          have H17d := Lib.hid (H17.out.below (Below.drew (Below.refl _ w17)))
          have HRC17d := Lib.hid (HRC17.out.below (Below.drew (Below.refl _ w17)))
          generalize w17.drew = W at *
          have hSw := FX.out.b6.below H17d.out.bel
          clear H17 HRC17
          refine wpAnyH_oneS2 (i := 0) rfl (by kernel_rfl) (by rfl) (fun K hK => ?_)
          go_simp
          go_at_call 19
          refine (awake9 _).mono ?_
          rintro e w18 ⟨rfl, hb18⟩
          have H18 := Lib.hid (H17d.out.below hb18)
          have HRC18 := Lib.hid (HRC17d.out.below hb18)
          refine hK.out _ _ (fun x => R6 x (w.heap.size + 1) 0 r' ma' lm' mc' ea' le' ec') (fun _ h => h) (hSw.below hb18) ?_
          clear hK K
          clear hb18 hSw H17d HRC17d
          have hSw := FX.out.b6.below H18.out.bel
          refine wpAnyH_tkS2 (i := 1) 148 (v := ?_) rfl rfl (by kernel_rfl) (by kernel_rfl) (by kernel_rfl) (by rfl) hSw (fun wq hwq => ?_) ?_
          rotate_left
          · (have hx := True.intro; go_simp <;> with_reducible rfl)
          simp only [List.setIfInBounds_toArray, List.set_cons_zero, List.set_cons_succ]
          refine wpAnyH_tkS2 (i := 2) 149 (v := ?_) rfl rfl (by kernel_rfl) (by kernel_rfl) (by kernel_rfl) (by rfl) hSw (fun wq hwq => ?_) ?_
          rotate_left
          · (have hx := True.intro; go_simp <;> with_reducible rfl)
          simp only [List.setIfInBounds_toArray, List.set_cons_zero, List.set_cons_succ]
          refine wpAnyH_tkS2 (i := 3) 150 (v := ?_) rfl rfl (by kernel_rfl) (by kernel_rfl) (by kernel_rfl) (by rfl) hSw (fun wq hwq => ?_) ?_
          rotate_left
          · (have hx := True.intro; go_simp <;> with_reducible rfl)
          simp only [List.setIfInBounds_toArray, List.set_cons_zero, List.set_cons_succ]
          refine wpAnyH_tkS2 (i := 4) 151 (v := ?_) rfl rfl (by kernel_rfl) (by kernel_rfl) (by kernel_rfl) (by rfl) hSw (fun wq hwq => ?_) ?_
          rotate_left
          · (have hx := True.intro; go_simp <;> with_reducible rfl)
          simp only [List.setIfInBounds_toArray, List.set_cons_zero, List.set_cons_succ]
          refine wpAnyH_tkS2 (i := 5) 152 (v := ?_) rfl rfl (by kernel_rfl) (by kernel_rfl) (by kernel_rfl) (by rfl) hSw (fun wq hwq => ?_) ?_
          rotate_left
          · (have hx := True.intro; go_simp <;> with_reducible rfl)
          simp only [List.setIfInBounds_toArray, List.set_cons_zero, List.set_cons_succ]
          refine wpAnyH_tkS2 (i := 6) 153 (v := ?_) rfl rfl (by kernel_rfl) (by kernel_rfl) (by kernel_rfl) (by rfl) hSw (fun wq hwq => ?_) ?_
          rotate_left
          · (have hx := True.intro; go_simp <;> with_reducible rfl)
          simp only [List.setIfInBounds_toArray, List.set_cons_zero, List.set_cons_succ]
          refine wpAnyH_tkS2 (i := 7) 154 (v := ?_) rfl rfl (by kernel_rfl) (by kernel_rfl) (by kernel_rfl) (by rfl) hSw (fun wq hwq => ?_) ?_
          rotate_left
          · (have hx := True.intro; go_simp <;> with_reducible rfl)
          simp only [List.setIfInBounds_toArray, List.set_cons_zero, List.set_cons_succ]
          refine wpAnyH_tkS2 (i := 8) 155 (v := ?_) rfl rfl (by kernel_rfl) (by kernel_rfl) (by kernel_rfl) (by rfl) hSw (fun wq hwq => ?_) ?_
          rotate_left
          · (have hx := True.intro; go_simp <;> with_reducible rfl)
          simp only [List.setIfInBounds_toArray, List.set_cons_zero, List.set_cons_succ]
          refine wpAnyH_tkS2 (i := 9) 156 (v := ?_) rfl rfl (by kernel_rfl) (by kernel_rfl) (by kernel_rfl) (by rfl) hSw (fun wq hwq => ?_) ?_
          rotate_left
          · (have hx := True.intro; go_simp <;> with_reducible rfl)
          simp only [List.setIfInBounds_toArray, List.set_cons_zero, List.set_cons_succ]
          refine wpAnyH_tkS2 (i := 10) 157 (v := ?_) rfl rfl (by kernel_rfl) (by kernel_rfl) (by kernel_rfl) (by rfl) hSw (fun wq hwq => ?_) ?_
          rotate_left
          · (have hx := True.intro; go_simp <;> with_reducible rfl)
          simp only [List.setIfInBounds_toArray, List.set_cons_zero, List.set_cons_succ]
          refine wpAnyH_tkS2 (i := 12) 159 (v := ?_) rfl rfl (by kernel_rfl) (by kernel_rfl) (by kernel_rfl) (by rfl) hSw (fun wq hwq => ?_) ?_
          rotate_left
          · (have hx := True.intro; go_simp <;> with_reducible rfl)
          simp only [List.setIfInBounds_toArray, List.set_cons_zero, List.set_cons_succ]
          refine wpAnyH_tkS2 (i := 13) 160 (v := ?_) rfl rfl (by kernel_rfl) (by kernel_rfl) (by kernel_rfl) (by rfl) hSw (fun wq hwq => ?_) ?_
          rotate_left
          · (have x0 := hwq.c0; have x1 := hwq.c1; have x2 := hwq.c2; have x3 := hwq.c3; have x4 := hwq.c4; have x5 := hwq.c5; go_simp <;> with_reducible rfl)
          simp only [List.setIfInBounds_toArray, List.set_cons_zero, List.set_cons_succ]
          have HXN18 : Hid (Rob 0 w.heap.size w18 (Rl.ok ⟨r', ma', mc', ea', ec', 0, w.heap.size⟩)) := rob_old (fun w' hb => RecAt.below HR0'.out hb) (Ext.trans EZ.out H18.out.bel)
          have HSZ18 : Hid (w.heap.size ≤ wz.heap.size ∧ wz.heap.size ≤ w18.heap.size) := ⟨HWZ.out, H18.out.bel.size⟩
          refine wpAnyH_twoS2 (i := 11) (j := 14) rfl rfl (by kernel_rfl) (by rfl) (by rfl) (fun K hK => ?_) (fun K hK => ?_)
          · go_simp
            refine (bkRecords_any wz.heap.size RB3 R a17 ga17 _ ((zs ++ [(⟨r', ma', mc', ea', ec', 0, w.heap.size⟩ : Rl)]).map encX) F17 _ H18.out.bk (by rw [HZL2.out]; omega) (fun c hc => by obtain ⟨z, hz, rfl⟩ := List.mem_map.mp hc; exact ⟨(HNG1.out z hz).enc.1, by have := (HNG1.out z hz).len; omega⟩)).mono ?_
            rintro e w19 ⟨vx, vxc, xs2, rfl, hx2, hrc2, hlo2, hb19⟩
            rw [good_decs _ HNG1.out] at hx2
            rw [HZL2.out]
            have HX2 := Lib.hid hx2
            have HRX := Lib.hid hrc2
            have HLX := Lib.hid hlo2
            have H19 := Lib.hid (H18.out.below hb19)
            have HRC19 := Lib.hid (HRC18.out.below hb19)
            have HXN19 := Lib.hid (HXN18.out.chg (gs := []) (Chg.of_below hb19) (by simp))
            refine hK.out _ _ (fun x => R6 x (w.heap.size + 1) 0 r' ma' lm' mc' ea' le' ec') (fun _ h => h) (FX.out.b6.below H19.out.bel) ?_
            clear hK K
            have hs19 := hb19.size
            clear hSw hx2 hrc2 hlo2 hb19
            refine wpAnyH_oneS2 (i := 14) rfl (by kernel_rfl) (by rfl) (fun K hK => ?_)
            go_simp
            have hb20 := below_one w19 (.cells #[.int .i64 r'.kind, .int .i64 r'.epoch, .slice ma' lm' mc', .int .i64 r'.pos, .int .i64 r'.last, .slice ea' le' ec'] 36)
            have HA20 := Lib.hid (rca_box r' ma' ea' mc' ec' 0 w.heap.size lm' le' w19.heap.size HLM'.out HLE'.out rfl HXN19.out)
            have H20 := Lib.hid (H19.out.below hb20)
            have HRC20 := Lib.hid (HRC19.out.below hb20)
            have HRX20 := Lib.hid (HRX.out.at_.below hb20)
            refine hK.out _ _ (fun x => R6 x (w.heap.size + 1) 0 r' ma' lm' mc' ea' le' ec') (fun _ h => h) (FX.out.b6.below H20.out.bel) ?_
            clear hK K
            have hs20 := hb20.size
            clear hb20
            generalize (w19.alloc (.cells #[.int .i64 r'.kind, .int .i64 r'.epoch, .slice ma' lm' mc', .int .i64 r'.pos, .int .i64 r'.last, .slice ea' le' ec'] 36)) = w20 at *
            refine wpAnyH_oneS2 (i := 15) rfl (by kernel_rfl) (by rfl) (fun K hK => ?_)
            refine wp_appRec (.tmp 159) (.tmp 161) rfl wz.heap.size vg vgc _ gs HGL.out rfl HRC20.out (some ⟨w19.heap.size, 0, none⟩) 1 1 [(⟨r', ma', mc', ea', ec', 0, w.heap.size⟩ : Rl)] rfl rfl HA20.out (by omega) (by have := HSZ18.out.2; omega) (fun y hy => by rw [List.mem_singleton.mp hy]; have h5 := HSZ18.out; exact ⟨by show w.heap.size ≤ _; omega, fun g hg => .inr (by have h4 := (HRC20.out.lt hg).1; show w.heap.size ≤ g; omega)⟩) ?_
            intro va21 vc21 w21 ho chg hat
            have HQ21 := Lib.hid ho.at_
            have HRX21 := Lib.hid (HRX20.out.chg chg (fun g hg e => by have h1 := (HRX.out.lt hg).1; have h2 := (HRC18.out.lt e).2; omega) (fun x hx g hg => by have h1 := HLX.out x hx; have h2 := (HRC18.out.lt hg).2; left; omega))
            have EB21 : Hid (Below wz.heap.size wz w21) := chg.below H20.out.bel H20.out.bel.size (fun g hg => (HRC20.out.lt hg).1)
            clear ho chg hat
            go_simp
            refine hK.out _ _ (fun x => R6 x (w.heap.size + 1) 0 r' ma' lm' mc' ea' le' ec') (fun _ h => h) (FX.out.b6.below EB21.out) ?_
            clear hK K
            refine wpAnyH_oneS2 (i := 16) rfl (by kernel_rfl) (by rfl) (fun K hK => ?_)
            go_simp
            refine (sameRecs_any _ _ _ _ _ xs2 _ _ (by rw [xs_len HX2.out, List.length_map]; have := HZL2.out; rw [List.length_map] at this; exact this) HRX21.out (by rw [List.length_append, HGL.out]; rfl) HQ21.out (xs_mem HX2.out (fun q hq => by obtain ⟨z, hz, rfl⟩ := List.mem_map.mp hq; exact (HNG1.out z hz).small)) HSM2.out).mono ?_
            rw [encX_map xs2, HX2.out, ← encX_map, HGE.out, decide_eq_true rfl]
            rintro e w22 ⟨rfl, hb22⟩
            have EF : Hid (Below w.heap.size w w22) := Ext.trans EZ.out (EB21.out.trans (hb22.mono EB21.out.size))
            refine hK.out _ _ (fun x => R6 x (w.heap.size + 1) 0 r' ma' lm' mc' ea' le' ec') (fun _ h => h) (FX.out.b6.below (EB21.out.trans (hb22.mono EB21.out.size))) ?_
            clear hK K
            have hSw := FX.out.b6.below (EB21.out.trans (hb22.mono EB21.out.size))
            refine wpAnyH_tkS2 (i := 17) 164 (v := ?_) rfl rfl (by kernel_rfl) (by kernel_rfl) (by kernel_rfl) (by rfl) hSw (fun wq hwq => ?_) ?_
            rotate_left
            · (have hx := True.intro; go_simp <;> with_reducible rfl)
            simp only [List.setIfInBounds_toArray, List.set_cons_zero, List.set_cons_succ]
            refine wpAnyH_tkS2 (i := 18) 8 (v := ?_) rfl rfl (by kernel_rfl) (by kernel_rfl) (by kernel_rfl) (by rfl) hSw (fun wq hwq => ?_) ?_
            rotate_left
            · (have hx := True.intro; go_simp <;> with_reducible rfl)
            simp only [List.setIfInBounds_toArray, List.set_cons_zero, List.set_cons_succ]
            refine wpAnyH_done (by kernel_rfl) ?_ _
            refine NoPanic.normal ?_
            go_wp2
            go_ret
            exact ⟨rfl, EF.out⟩
          · go_simp
            have hb19 := below_one w18 (.cells #[.int .i64 r'.kind, .int .i64 r'.epoch, .slice ma' lm' mc', .int .i64 r'.pos, .int .i64 r'.last, .slice ea' le' ec'] 36)
            have HA19 := Lib.hid (rca_box r' ma' ea' mc' ec' 0 w.heap.size lm' le' w18.heap.size HLM'.out HLE'.out rfl HXN18.out)
            have H19 := Lib.hid (H18.out.below hb19)
            have HRC19 := Lib.hid (HRC18.out.below hb19)
            refine hK.out _ _ (fun x => R6 x (w.heap.size + 1) 0 r' ma' lm' mc' ea' le' ec') (fun _ h => h) (FX.out.b6.below H19.out.bel) ?_
            clear hK K
            have hs19 := hb19.size
            clear hSw hb19
            generalize (w18.alloc (.cells #[.int .i64 r'.kind, .int .i64 r'.epoch, .slice ma' lm' mc', .int .i64 r'.pos, .int .i64 r'.last, .slice ea' le' ec'] 36)) = w19 at *
            refine wpAnyH_oneS2 (i := 11) rfl (by kernel_rfl) (by rfl) (fun K hK => ?_)
            go_simp
            refine (bkRecords_any wz.heap.size RB3 R a17 ga17 _ ((zs ++ [(⟨r', ma', mc', ea', ec', 0, w.heap.size⟩ : Rl)]).map encX) F17 _ H19.out.bk (by rw [HZL2.out]; omega) (fun c hc => by obtain ⟨z, hz, rfl⟩ := List.mem_map.mp hc; exact ⟨(HNG1.out z hz).enc.1, by have := (HNG1.out z hz).len; omega⟩)).mono ?_
            rintro e w20 ⟨vx, vxc, xs2, rfl, hx2, hrc2, hlo2, hb20⟩
            rw [good_decs _ HNG1.out] at hx2
            rw [HZL2.out]
            have HX2 := Lib.hid hx2
            have HRX := Lib.hid hrc2
            have HLX := Lib.hid hlo2
            have H20 := Lib.hid (H19.out.below hb20)
            have HRC20 := Lib.hid (HRC19.out.below hb20)
            have HRX20 := Lib.hid hrc2.at_
            have HA20 := Lib.hid (HA19.out.below hb20)
            refine hK.out _ _ (fun x => R6 x (w.heap.size + 1) 0 r' ma' lm' mc' ea' le' ec') (fun _ h => h) (FX.out.b6.below H20.out.bel) ?_
            clear hK K
            have hs20 := hb20.size
            clear hx2 hrc2 hlo2 hb20
            refine wpAnyH_oneS2 (i := 15) rfl (by kernel_rfl) (by rfl) (fun K hK => ?_)
            refine wp_appRec (.tmp 159) (.tmp 161) rfl wz.heap.size vg vgc _ gs HGL.out rfl HRC20.out (some ⟨w18.heap.size, 0, none⟩) 1 1 [(⟨r', ma', mc', ea', ec', 0, w.heap.size⟩ : Rl)] rfl rfl HA20.out (by omega) (by have := HSZ18.out.2; omega) (fun y hy => by rw [List.mem_singleton.mp hy]; have h5 := HSZ18.out; exact ⟨by show w.heap.size ≤ _; omega, fun g hg => .inr (by have h4 := (HRC20.out.lt hg).1; show w.heap.size ≤ g; omega)⟩) ?_
            intro va21 vc21 w21 ho chg hat
            have HQ21 := Lib.hid ho.at_
            have HRX21 := Lib.hid (HRX20.out.chg chg (fun g hg e => by have h1 := (HRX.out.lt hg).1; have h2 := (HRC18.out.lt e).2; omega) (fun x hx g hg => by have h1 := HLX.out x hx; have h2 := (HRC18.out.lt hg).2; left; omega))
            have EB21 : Hid (Below wz.heap.size wz w21) := chg.below H20.out.bel H20.out.bel.size (fun g hg => (HRC20.out.lt hg).1)
            clear ho chg hat
            go_simp
            refine hK.out _ _ (fun x => R6 x (w.heap.size + 1) 0 r' ma' lm' mc' ea' le' ec') (fun _ h => h) (FX.out.b6.below EB21.out) ?_
            clear hK K
            refine wpAnyH_oneS2 (i := 16) rfl (by kernel_rfl) (by rfl) (fun K hK => ?_)
            go_simp
            refine (sameRecs_any _ _ _ _ _ xs2 _ _ (by rw [xs_len HX2.out, List.length_map]; have := HZL2.out; rw [List.length_map] at this; exact this) HRX21.out (by rw [List.length_append, HGL.out]; rfl) HQ21.out (xs_mem HX2.out (fun q hq => by obtain ⟨z, hz, rfl⟩ := List.mem_map.mp hq; exact (HNG1.out z hz).small)) HSM2.out).mono ?_
            rw [encX_map xs2, HX2.out, ← encX_map, HGE.out, decide_eq_true rfl]
            rintro e w22 ⟨rfl, hb22⟩
            have EF : Hid (Below w.heap.size w w22) := Ext.trans EZ.out (EB21.out.trans (hb22.mono EB21.out.size))
            refine hK.out _ _ (fun x => R6 x (w.heap.size + 1) 0 r' ma' lm' mc' ea' le' ec') (fun _ h => h) (FX.out.b6.below (EB21.out.trans (hb22.mono EB21.out.size))) ?_
            clear hK K
            have hSw := FX.out.b6.below (EB21.out.trans (hb22.mono EB21.out.size))
            refine wpAnyH_tkS2 (i := 17) 164 (v := ?_) rfl rfl (by kernel_rfl) (by kernel_rfl) (by kernel_rfl) (by rfl) hSw (fun wq hwq => ?_) ?_
            rotate_left
            · (have hx := True.intro; go_simp <;> with_reducible rfl)
            simp only [List.setIfInBounds_toArray, List.set_cons_zero, List.set_cons_succ]
            refine wpAnyH_tkS2 (i := 18) 8 (v := ?_) rfl rfl (by kernel_rfl) (by kernel_rfl) (by kernel_rfl) (by rfl) hSw (fun wq hwq => ?_) ?_
            rotate_left
            · (have hx := True.intro; go_simp <;> with_reducible rfl)
            simp only [List.setIfInBounds_toArray, List.set_cons_zero, List.set_cons_succ]
            refine wpAnyH_done (by kernel_rfl) ?_ _
            refine NoPanic.normal ?_
            go_wp2
            go_ret
            exact ⟨rfl, EF.out⟩
        · have d1 : decide ((L : Int) ≤ (K : Int)) = false := by simp; omega
          have d2 : decide (L ≤ K) = false := by simp; omega
          have hzz : zs = ys := by
            rcases HCS.out with ⟨_, e⟩ | ⟨e, _⟩
            · exact absurd e hw
            · exact e
          have hz1 : zn = n := by rw [← HZN.out, hzz, HN.out]
          subst hz1
          have HGL : Hid (gs.length = zn) := by show _ = _; rw [xs_len HGS.out, List.length_map]; exact HZN.out
          have HEQ : Hid (decide (gs.map encX = ys.map encX) = true) := decide_eq_true (by rw [← hzz, encX_map gs, HGS.out, ← encX_map])
          have HWS : Hid (∀ y ∈ ys, Small y.r) := fun y hy => by rw [← hzz] at hy; exact (HZG.out y hy).small
          clear hzz
          go_wp2_with fail
          refine (sameRecs_any _ _ _ _ zn gs _ _ HGL.out HRC14.out.at_ HN.out HO14.out HSM.out HWS.out).mono ?_
          rw [HEQ.out]
          rintro e w15 ⟨rfl, hb15⟩
          have H15 := Lib.hid (H14.out.below hb15)
          have HRC15 := Lib.hid (HRC14.out.below hb15)
          clear hb15 H14 HRC14
          have HB6 := Lib.hid (FX.out.b6.below H15.out.bel)
          have x0 := HB6.out.c0
          have x1 := HB6.out.c1
          have x2 := HB6.out.c2
          have x3 := HB6.out.c3
          have x4 := HB6.out.c4
          have x5 := HB6.out.c5
          go_wp2_with fail
          refine (bkAppend_yes wz.heap.size RB2 R a11 ga11 _ (zs.map encX) F11 _ _ _ _ _ _ r' _ H15.out.bk (by rw [HZL.out]; omega) (FX.out.ok'.below H15.out.bel) HLM'.out HLE'.out HS4.out).mono ?_
          rw [wrt_more _ _ _ (by rw [frm_len]; have := HZF.out; have := HCN.out; omega)]
          rintro e w16 ⟨rfl, a16, ga16, F16, hk16, hm16, -⟩
          rw [if_pos rfl] at hk16
          have H16 := Lib.hid (H15.out.mv hk16 hm16)
          have HRM16 := Lib.hid (HRC15.out.mv hm16 HM13.out)
          clear x0 x1 x2 x3 x4 x5
          clear hk16 hm16 HB6 H15 HRC15
          have HNG1 : Hid (∀ z ∈ zs ++ [(⟨r', ma', mc', ea', ec', 0, w.heap.size⟩ : Rl)], GoodX z) := fun z hz => by
            rcases List.mem_append.mp hz with hz | hz
            · exact HZG.out z hz
            · rw [List.mem_singleton.mp hz]; exact HNG.out
          have HPE : Hid (frms (zs.map encX) ++ frm (encR r') = frms ((zs ++ [(⟨r', ma', mc', ea', ec', 0, w.heap.size⟩ : Rl)]).map encX)) := by show _ = _; rw [List.map_append, List.map_cons, List.map_nil, frms_snoc]; rfl
          go_wp2_with fail
          refine (bkOpen_any wz.heap.size R a16 _ _ H16.out.bk.dsk rfl rfl).mono ?_
          rintro e w17 ⟨RB3, a17, ga17, cs17, rest17, F17, rfl, hv17, hk17, hm17⟩
          dsimp only at hv17
          rw [HPE.out] at hv17
          obtain ⟨rfl, -⟩ := vld_whole _ _ _ (good_encs _ HNG1.out) hv17
          have H17 := Lib.hid (H16.out.mv hk17 (hm17.opened (RB := RB2) (ga := ga16)))
          have HRC17 := Lib.hid (HRM16.out.1.mv (hm17.opened (RB := RB2) (ga := ga16)) HRM16.out.2).1
          clear hk17 hm17 hv17 H16 HRM16
          have HZL2 : Hid (((zs ++ [(⟨r', ma', mc', ea', ec', 0, w.heap.size⟩ : Rl)]).map encX).length = zn + 1) := by show _ = _; rw [List.length_map, List.length_append, HZN.out]; rfl
          have HSM2 : Hid (∀ x ∈ gs ++ [(⟨r', ma', mc', ea', ec', 0, w.heap.size⟩ : Rl)], Small x.r) := fun x hx => by
            rcases List.mem_append.mp hx with hx | hx
            · exact HSM.out x hx
            · rw [List.mem_singleton.mp hx]; exact HNG.out.small
          have HGE : Hid ((gs ++ [(⟨r', ma', mc', ea', ec', 0, w.heap.size⟩ : Rl)]).map encX = (zs ++ [(⟨r', ma', mc', ea', ec', 0, w.heap.size⟩ : Rl)]).map encX) := by
            show _ = _
            rw [List.map_append, List.map_append, encX_map gs, HGS.out, ← encX_map]
          go_upto_region 28 with fail
          refine wp_region_S2 (fun x => R6 x (w.heap.size + 1) 0 r' ma' lm' mc' ea' le' ec') (by kernel_rfl) ?_
          have H17d := Lib.hid (H17.out.below (Below.drew (Below.refl _ w17)))
          have HRC17d := Lib.hid (HRC17.out.below (Below.drew (Below.refl _ w17)))
          generalize w17.drew = W at *
          have hSw := FX.out.b6.below H17d.out.bel
          clear H17 HRC17
          refine wpAnyH_oneS2 (i := 0) rfl (by kernel_rfl) (by rfl) (fun K hK => ?_)
          go_simp
          go_at_call 19
          refine (awake9 _).mono ?_
          rintro e w18 ⟨rfl, hb18⟩
          have H18 := Lib.hid (H17d.out.below hb18)
          have HRC18 := Lib.hid (HRC17d.out.below hb18)
          refine hK.out _ _ (fun x => R6 x (w.heap.size + 1) 0 r' ma' lm' mc' ea' le' ec') (fun _ h => h) (hSw.below hb18) ?_
          clear hK K
          clear hb18 hSw H17d HRC17d
          have hSw := FX.out.b6.below H18.out.bel
          refine wpAnyH_tkS2 (i := 1) 148 (v := ?_) rfl rfl (by kernel_rfl) (by kernel_rfl) (by kernel_rfl) (by rfl) hSw (fun wq hwq => ?_) ?_
          rotate_left
          · (have hx := True.intro; go_simp <;> with_reducible rfl)
          simp only [List.setIfInBounds_toArray, List.set_cons_zero, List.set_cons_succ]
          refine wpAnyH_tkS2 (i := 2) 149 (v := ?_) rfl rfl (by kernel_rfl) (by kernel_rfl) (by kernel_rfl) (by rfl) hSw (fun wq hwq => ?_) ?_
          rotate_left
          · (have hx := True.intro; go_simp <;> with_reducible rfl)
          simp only [List.setIfInBounds_toArray, List.set_cons_zero, List.set_cons_succ]
          refine wpAnyH_tkS2 (i := 3) 150 (v := ?_) rfl rfl (by kernel_rfl) (by kernel_rfl) (by kernel_rfl) (by rfl) hSw (fun wq hwq => ?_) ?_
          rotate_left
          · (have hx := True.intro; go_simp <;> with_reducible rfl)
          simp only [List.setIfInBounds_toArray, List.set_cons_zero, List.set_cons_succ]
          refine wpAnyH_tkS2 (i := 4) 151 (v := ?_) rfl rfl (by kernel_rfl) (by kernel_rfl) (by kernel_rfl) (by rfl) hSw (fun wq hwq => ?_) ?_
          rotate_left
          · (have hx := True.intro; go_simp <;> with_reducible rfl)
          simp only [List.setIfInBounds_toArray, List.set_cons_zero, List.set_cons_succ]
          refine wpAnyH_tkS2 (i := 5) 152 (v := ?_) rfl rfl (by kernel_rfl) (by kernel_rfl) (by kernel_rfl) (by rfl) hSw (fun wq hwq => ?_) ?_
          rotate_left
          · (have hx := True.intro; go_simp <;> with_reducible rfl)
          simp only [List.setIfInBounds_toArray, List.set_cons_zero, List.set_cons_succ]
          refine wpAnyH_tkS2 (i := 6) 153 (v := ?_) rfl rfl (by kernel_rfl) (by kernel_rfl) (by kernel_rfl) (by rfl) hSw (fun wq hwq => ?_) ?_
          rotate_left
          · (have hx := True.intro; go_simp <;> with_reducible rfl)
          simp only [List.setIfInBounds_toArray, List.set_cons_zero, List.set_cons_succ]
          refine wpAnyH_tkS2 (i := 7) 154 (v := ?_) rfl rfl (by kernel_rfl) (by kernel_rfl) (by kernel_rfl) (by rfl) hSw (fun wq hwq => ?_) ?_
          rotate_left
          · (have hx := True.intro; go_simp <;> with_reducible rfl)
          simp only [List.setIfInBounds_toArray, List.set_cons_zero, List.set_cons_succ]
          refine wpAnyH_tkS2 (i := 8) 155 (v := ?_) rfl rfl (by kernel_rfl) (by kernel_rfl) (by kernel_rfl) (by rfl) hSw (fun wq hwq => ?_) ?_
          rotate_left
          · (have hx := True.intro; go_simp <;> with_reducible rfl)
          simp only [List.setIfInBounds_toArray, List.set_cons_zero, List.set_cons_succ]
          refine wpAnyH_tkS2 (i := 9) 156 (v := ?_) rfl rfl (by kernel_rfl) (by kernel_rfl) (by kernel_rfl) (by rfl) hSw (fun wq hwq => ?_) ?_
          rotate_left
          · (have hx := True.intro; go_simp <;> with_reducible rfl)
          simp only [List.setIfInBounds_toArray, List.set_cons_zero, List.set_cons_succ]
          refine wpAnyH_tkS2 (i := 10) 157 (v := ?_) rfl rfl (by kernel_rfl) (by kernel_rfl) (by kernel_rfl) (by rfl) hSw (fun wq hwq => ?_) ?_
          rotate_left
          · (have hx := True.intro; go_simp <;> with_reducible rfl)
          simp only [List.setIfInBounds_toArray, List.set_cons_zero, List.set_cons_succ]
          refine wpAnyH_tkS2 (i := 12) 159 (v := ?_) rfl rfl (by kernel_rfl) (by kernel_rfl) (by kernel_rfl) (by rfl) hSw (fun wq hwq => ?_) ?_
          rotate_left
          · (have hx := True.intro; go_simp <;> with_reducible rfl)
          simp only [List.setIfInBounds_toArray, List.set_cons_zero, List.set_cons_succ]
          refine wpAnyH_tkS2 (i := 13) 160 (v := ?_) rfl rfl (by kernel_rfl) (by kernel_rfl) (by kernel_rfl) (by rfl) hSw (fun wq hwq => ?_) ?_
          rotate_left
          · (have x0 := hwq.c0; have x1 := hwq.c1; have x2 := hwq.c2; have x3 := hwq.c3; have x4 := hwq.c4; have x5 := hwq.c5; go_simp <;> with_reducible rfl)
          simp only [List.setIfInBounds_toArray, List.set_cons_zero, List.set_cons_succ]
          have HXN18 : Hid (Rob 0 w.heap.size w18 (Rl.ok ⟨r', ma', mc', ea', ec', 0, w.heap.size⟩)) := rob_old (fun w' hb => RecAt.below HR0'.out hb) (Ext.trans EZ.out H18.out.bel)
          have HSZ18 : Hid (w.heap.size ≤ wz.heap.size ∧ wz.heap.size ≤ w18.heap.size) := ⟨HWZ.out, H18.out.bel.size⟩
          refine wpAnyH_twoS2 (i := 11) (j := 14) rfl rfl (by kernel_rfl) (by rfl) (by rfl) (fun K hK => ?_) (fun K hK => ?_)
          · go_simp
            refine (bkRecords_any wz.heap.size RB3 R a17 ga17 _ ((zs ++ [(⟨r', ma', mc', ea', ec', 0, w.heap.size⟩ : Rl)]).map encX) F17 _ H18.out.bk (by rw [HZL2.out]; omega) (fun c hc => by obtain ⟨z, hz, rfl⟩ := List.mem_map.mp hc; exact ⟨(HNG1.out z hz).enc.1, by have := (HNG1.out z hz).len; omega⟩)).mono ?_
            rintro e w19 ⟨vx, vxc, xs2, rfl, hx2, hrc2, hlo2, hb19⟩
            rw [good_decs _ HNG1.out] at hx2
            rw [HZL2.out]
            have HX2 := Lib.hid hx2
            have HRX := Lib.hid hrc2
            have HLX := Lib.hid hlo2
            have H19 := Lib.hid (H18.out.below hb19)
            have HRC19 := Lib.hid (HRC18.out.below hb19)
            have HXN19 := Lib.hid (HXN18.out.chg (gs := []) (Chg.of_below hb19) (by simp))
            refine hK.out _ _ (fun x => R6 x (w.heap.size + 1) 0 r' ma' lm' mc' ea' le' ec') (fun _ h => h) (FX.out.b6.below H19.out.bel) ?_
            clear hK K
            have hs19 := hb19.size
            clear hSw hx2 hrc2 hlo2 hb19
            refine wpAnyH_oneS2 (i := 14) rfl (by kernel_rfl) (by rfl) (fun K hK => ?_)
            go_simp
            have hb20 := below_one w19 (.cells #[.int .i64 r'.kind, .int .i64 r'.epoch, .slice ma' lm' mc', .int .i64 r'.pos, .int .i64 r'.last, .slice ea' le' ec'] 36)
            have HA20 := Lib.hid (rca_box r' ma' ea' mc' ec' 0 w.heap.size lm' le' w19.heap.size HLM'.out HLE'.out rfl HXN19.out)
            have H20 := Lib.hid (H19.out.below hb20)
            have HRC20 := Lib.hid (HRC19.out.below hb20)
            have HRX20 := Lib.hid (HRX.out.at_.below hb20)
            refine hK.out _ _ (fun x => R6 x (w.heap.size + 1) 0 r' ma' lm' mc' ea' le' ec') (fun _ h => h) (FX.out.b6.below H20.out.bel) ?_
            clear hK K
            have hs20 := hb20.size
            clear hb20
            generalize (w19.alloc (.cells #[.int .i64 r'.kind, .int .i64 r'.epoch, .slice ma' lm' mc', .int .i64 r'.pos, .int .i64 r'.last, .slice ea' le' ec'] 36)) = w20 at *
            refine wpAnyH_oneS2 (i := 15) rfl (by kernel_rfl) (by rfl) (fun K hK => ?_)
            refine wp_appRec (.tmp 159) (.tmp 161) rfl wz.heap.size vg vgc _ gs HGL.out rfl HRC20.out (some ⟨w19.heap.size, 0, none⟩) 1 1 [(⟨r', ma', mc', ea', ec', 0, w.heap.size⟩ : Rl)] rfl rfl HA20.out (by omega) (by have := HSZ18.out.2; omega) (fun y hy => by rw [List.mem_singleton.mp hy]; have h5 := HSZ18.out; exact ⟨by show w.heap.size ≤ _; omega, fun g hg => .inr (by have h4 := (HRC20.out.lt hg).1; show w.heap.size ≤ g; omega)⟩) ?_
            intro va21 vc21 w21 ho chg hat
            have HQ21 := Lib.hid ho.at_
            have HRX21 := Lib.hid (HRX20.out.chg chg (fun g hg e => by have h1 := (HRX.out.lt hg).1; have h2 := (HRC18.out.lt e).2; omega) (fun x hx g hg => by have h1 := HLX.out x hx; have h2 := (HRC18.out.lt hg).2; left; omega))
            have EB21 : Hid (Below wz.heap.size wz w21) := chg.below H20.out.bel H20.out.bel.size (fun g hg => (HRC20.out.lt hg).1)
            clear ho chg hat
            go_simp
            refine hK.out _ _ (fun x => R6 x (w.heap.size + 1) 0 r' ma' lm' mc' ea' le' ec') (fun _ h => h) (FX.out.b6.below EB21.out) ?_
            clear hK K
            refine wpAnyH_oneS2 (i := 16) rfl (by kernel_rfl) (by rfl) (fun K hK => ?_)
            go_simp
            refine (sameRecs_any _ _ _ _ _ xs2 _ _ (by rw [xs_len HX2.out, List.length_map]; have := HZL2.out; rw [List.length_map] at this; exact this) HRX21.out (by rw [List.length_append, HGL.out]; rfl) HQ21.out (xs_mem HX2.out (fun q hq => by obtain ⟨z, hz, rfl⟩ := List.mem_map.mp hq; exact (HNG1.out z hz).small)) HSM2.out).mono ?_
            rw [encX_map xs2, HX2.out, ← encX_map, HGE.out, decide_eq_true rfl]
            rintro e w22 ⟨rfl, hb22⟩
            have EF : Hid (Below w.heap.size w w22) := Ext.trans EZ.out (EB21.out.trans (hb22.mono EB21.out.size))
            refine hK.out _ _ (fun x => R6 x (w.heap.size + 1) 0 r' ma' lm' mc' ea' le' ec') (fun _ h => h) (FX.out.b6.below (EB21.out.trans (hb22.mono EB21.out.size))) ?_
            clear hK K
            have hSw := FX.out.b6.below (EB21.out.trans (hb22.mono EB21.out.size))
            refine wpAnyH_tkS2 (i := 17) 164 (v := ?_) rfl rfl (by kernel_rfl) (by kernel_rfl) (by kernel_rfl) (by rfl) hSw (fun wq hwq => ?_) ?_
            rotate_left
            · (have hx := True.intro; go_simp <;> with_reducible rfl)
            simp only [List.setIfInBounds_toArray, List.set_cons_zero, List.set_cons_succ]
            refine wpAnyH_tkS2 (i := 18) 8 (v := ?_) rfl rfl (by kernel_rfl) (by kernel_rfl) (by kernel_rfl) (by rfl) hSw (fun wq hwq => ?_) ?_
            rotate_left
            · (have hx := True.intro; go_simp <;> with_reducible rfl)
            simp only [List.setIfInBounds_toArray, List.set_cons_zero, List.set_cons_succ]
            refine wpAnyH_done (by kernel_rfl) ?_ _
            refine NoPanic.normal ?_
            go_wp2
            go_ret
            exact ⟨rfl, EF.out⟩
          · go_simp
            have hb19 := below_one w18 (.cells #[.int .i64 r'.kind, .int .i64 r'.epoch, .slice ma' lm' mc', .int .i64 r'.pos, .int .i64 r'.last, .slice ea' le' ec'] 36)
            have HA19 := Lib.hid (rca_box r' ma' ea' mc' ec' 0 w.heap.size lm' le' w18.heap.size HLM'.out HLE'.out rfl HXN18.out)
            have H19 := Lib.hid (H18.out.below hb19)
            have HRC19 := Lib.hid (HRC18.out.below hb19)
            refine hK.out _ _ (fun x => R6 x (w.heap.size + 1) 0 r' ma' lm' mc' ea' le' ec') (fun _ h => h) (FX.out.b6.below H19.out.bel) ?_
            clear hK K
            have hs19 := hb19.size
            clear hSw hb19
            generalize (w18.alloc (.cells #[.int .i64 r'.kind, .int .i64 r'.epoch, .slice ma' lm' mc', .int .i64 r'.pos, .int .i64 r'.last, .slice ea' le' ec'] 36)) = w19 at *
            refine wpAnyH_oneS2 (i := 11) rfl (by kernel_rfl) (by rfl) (fun K hK => ?_)
            go_simp
            refine (bkRecords_any wz.heap.size RB3 R a17 ga17 _ ((zs ++ [(⟨r', ma', mc', ea', ec', 0, w.heap.size⟩ : Rl)]).map encX) F17 _ H19.out.bk (by rw [HZL2.out]; omega) (fun c hc => by obtain ⟨z, hz, rfl⟩ := List.mem_map.mp hc; exact ⟨(HNG1.out z hz).enc.1, by have := (HNG1.out z hz).len; omega⟩)).mono ?_
            rintro e w20 ⟨vx, vxc, xs2, rfl, hx2, hrc2, hlo2, hb20⟩
            rw [good_decs _ HNG1.out] at hx2
            rw [HZL2.out]
            have HX2 := Lib.hid hx2
            have HRX := Lib.hid hrc2
            have HLX := Lib.hid hlo2
            have H20 := Lib.hid (H19.out.below hb20)
            have HRC20 := Lib.hid (HRC19.out.below hb20)
            have HRX20 := Lib.hid hrc2.at_
            have HA20 := Lib.hid (HA19.out.below hb20)
            refine hK.out _ _ (fun x => R6 x (w.heap.size + 1) 0 r' ma' lm' mc' ea' le' ec') (fun _ h => h) (FX.out.b6.below H20.out.bel) ?_
            clear hK K
            have hs20 := hb20.size
            clear hx2 hrc2 hlo2 hb20
            refine wpAnyH_oneS2 (i := 15) rfl (by kernel_rfl) (by rfl) (fun K hK => ?_)
            refine wp_appRec (.tmp 159) (.tmp 161) rfl wz.heap.size vg vgc _ gs HGL.out rfl HRC20.out (some ⟨w18.heap.size, 0, none⟩) 1 1 [(⟨r', ma', mc', ea', ec', 0, w.heap.size⟩ : Rl)] rfl rfl HA20.out (by omega) (by have := HSZ18.out.2; omega) (fun y hy => by rw [List.mem_singleton.mp hy]; have h5 := HSZ18.out; exact ⟨by show w.heap.size ≤ _; omega, fun g hg => .inr (by have h4 := (HRC20.out.lt hg).1; show w.heap.size ≤ g; omega)⟩) ?_
            intro va21 vc21 w21 ho chg hat
            have HQ21 := Lib.hid ho.at_
            have HRX21 := Lib.hid (HRX20.out.chg chg (fun g hg e => by have h1 := (HRX.out.lt hg).1; have h2 := (HRC18.out.lt e).2; omega) (fun x hx g hg => by have h1 := HLX.out x hx; have h2 := (HRC18.out.lt hg).2; left; omega))
            have EB21 : Hid (Below wz.heap.size wz w21) := chg.below H20.out.bel H20.out.bel.size (fun g hg => (HRC20.out.lt hg).1)
            clear ho chg hat
            go_simp
            refine hK.out _ _ (fun x => R6 x (w.heap.size + 1) 0 r' ma' lm' mc' ea' le' ec') (fun _ h => h) (FX.out.b6.below EB21.out) ?_
            clear hK K
            refine wpAnyH_oneS2 (i := 16) rfl (by kernel_rfl) (by rfl) (fun K hK => ?_)
            go_simp
            refine (sameRecs_any _ _ _ _ _ xs2 _ _ (by rw [xs_len HX2.out, List.length_map]; have := HZL2.out; rw [List.length_map] at this; exact this) HRX21.out (by rw [List.length_append, HGL.out]; rfl) HQ21.out (xs_mem HX2.out (fun q hq => by obtain ⟨z, hz, rfl⟩ := List.mem_map.mp hq; exact (HNG1.out z hz).small)) HSM2.out).mono ?_
            rw [encX_map xs2, HX2.out, ← encX_map, HGE.out, decide_eq_true rfl]
            rintro e w22 ⟨rfl, hb22⟩
            have EF : Hid (Below w.heap.size w w22) := Ext.trans EZ.out (EB21.out.trans (hb22.mono EB21.out.size))
            refine hK.out _ _ (fun x => R6 x (w.heap.size + 1) 0 r' ma' lm' mc' ea' le' ec') (fun _ h => h) (FX.out.b6.below (EB21.out.trans (hb22.mono EB21.out.size))) ?_
            clear hK K
            have hSw := FX.out.b6.below (EB21.out.trans (hb22.mono EB21.out.size))
            refine wpAnyH_tkS2 (i := 17) 164 (v := ?_) rfl rfl (by kernel_rfl) (by kernel_rfl) (by kernel_rfl) (by rfl) hSw (fun wq hwq => ?_) ?_
            rotate_left
            · (have hx := True.intro; go_simp <;> with_reducible rfl)
            simp only [List.setIfInBounds_toArray, List.set_cons_zero, List.set_cons_succ]
            refine wpAnyH_tkS2 (i := 18) 8 (v := ?_) rfl rfl (by kernel_rfl) (by kernel_rfl) (by kernel_rfl) (by rfl) hSw (fun wq hwq => ?_) ?_
            rotate_left
            · (have hx := True.intro; go_simp <;> with_reducible rfl)
            simp only [List.setIfInBounds_toArray, List.set_cons_zero, List.set_cons_succ]
            refine wpAnyH_done (by kernel_rfl) ?_ _
            refine NoPanic.normal ?_
            go_wp2
            go_ret
            exact ⟨rfl, EF.out⟩

theorem bookTears_walk (a0 : Option Addr) (len0 cap0 : Nat) (m0 : List Rl) (ma1 ea1 : Option Addr) (mc1 ec1 : Nat) (m1 : Pr) (ma2 ea2 : Option Addr) (mc2 ec2 : Nat) (m2 : Pr) (a3 : Int) (w : World) (w0 : m0.length = len0 ∧ RcA w a0 cap0 m0 ∧ OldX w.heap.size m0) (w1 : RecAt w ma1 mc1 ea1 ec1 m1) (w2 : RecAt w ma2 mc2 ea2 ec2 m2) (w3 : (Lit.int .u16 a3).wf = true) :
    Calls Try.prog 6 #[.slice a0 len0 cap0, .agg #[.int .i64 m1.kind, .int .i64 m1.epoch, .slice ma1 m1.mem.length mc1, .int .i64 m1.pos, .int .i64 m1.last, .slice ea1 m1.ents.length ec1], .agg #[.int .i64 m2.kind, .int .i64 m2.epoch, .slice ma2 m2.mem.length mc2, .int .i64 m2.pos, .int .i64 m2.last, .slice ea2 m2.ents.length ec2], .int .u16 a3] w fun e w' => e = .returned (.bool true) ∧ Below w.heap.size w w' := by
  obtain ⟨N, hN, rfl⟩ : ∃ N : Nat, N < 65536 ∧ a3 = (N : Int) := by
    have h : 0 ≤ a3 ∧ a3 ≤ 65535 := by simpa [Lit.wf, IntKind.min, IntKind.max, IntKind.signed, IntKind.bits] using w3
    exact ⟨a3.toNat, by omega, by omega⟩
  by_cases h : (m1.ents.length ≤ 6 ∧ m1.mem.length ≤ 40) ∧ (m2.ents.length ≤ 6 ∧ m2.mem.length ≤ 40) ∧ sndR m1 = true ∧ sndR m2 = true
  · exact bookTears_yes a0 len0 cap0 m0 ma1 ea1 mc1 ec1 _ _ m1 ma2 ea2 mc2 ec2 _ _ m2 N hN w w0.1 w0.2.1 w0.2.2 w1 rfl rfl w2 rfl rfl h.1 h.2.1 h.2.2.1 h.2.2.2
  · exact bookTears_no a0 len0 cap0 ma1 ea1 mc1 ec1 _ _ m1 ma2 ea2 mc2 ec2 _ _ m2 N w w1 rfl rfl w2 rfl rfl h

end Go.Proofs.Ytfcjnhcolkpppaa
