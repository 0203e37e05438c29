/-
  The laws' fixed fact, of layer 9; no book; the law BookNone.
-/
import Derived.Test.YtfcjnhcolkpppaaWalksC1
namespace Go.Proofs.Ytfcjnhcolkpppaa
open Go.RowKit



/-- A book that was made behind w0. -/
structure St (w0 w : World) (RB R : Nat) (a ga : Option Addr) (s : DS) (cs : List (List Nat)) (F : List Nat) : Prop where
  bk : Bk w w0.heap.size RB R a ga s cs F
  bel : Below w0.heap.size w0 w

theorem St.below {w0 w w' : World} {RB R : Nat} {a ga : Option Addr} {s : DS} {cs : List (List Nat)} {F : List Nat} (h : St w0 w RB R a ga s cs F) (hb : Below w.heap.size w w') : St w0 w' RB R a ga s cs F := ⟨h.bk.below hb, h.bel.trans (hb.mono h.bel.size)⟩

theorem St.mv {w0 w w' : World} {RB R RB' R' : Nat} {a ga a' ga' : Option Addr} {s s' : DS} {cs cs' : List (List Nat)} {F F' : List Nat} (h : St w0 w RB R a ga s cs F) (hk : Bk w' w0.heap.size RB' R' a' ga' s' cs' F') (hm : Mv w w' (bkM RB R a ga) (bkM RB' R' a' ga')) : St w0 w' RB' R' a' ga' s' cs' F' :=
  ⟨hk, (hm.below h.bel fun _ hg => (h.bk.mLt hg).1).1⟩

/-- A method of the disk without results. -/
theorem St.done {w0 w w' : World} {RB R : Nat} {a ga : Option Addr} {s s' : DS} {cs : List (List Nat)} {F : List Nat} (h : St w0 w RB R a ga s cs F) (hd : Dsk w' w0.heap.size R a s') (hb : Chg [R] w w') : St w0 w' RB R a ga s' cs F ∧ Mv w w' (bkM RB R a ga) (bkM RB R a ga) := by
  have hb' : Chg (R :: blk a) w w' := hb.mono (by simp)
  have hm := h.bk.wroteMv hb' (.inl rfl)
  exact ⟨h.mv (h.bk.wrote hd hb' (.inl rfl)) hm, hm⟩

/-- The book is opened anew. -/
theorem Mv.opened {w w' : World} {RB R : Nat} {a ga : Option Addr} {M' : List Nat} (h : Mv w w' (R :: blk a) M') : Mv w w' (bkM RB R a ga) M' := by
  have hs : ∀ g ∈ R :: blk a, g ∈ bkM RB R a ga := fun g hg => by
    unfold bkM
    simp only [List.mem_cons, List.mem_append] at hg ⊢
    rcases hg with e | e
    · exact .inr (.inl e)
    · exact .inr (.inr (.inl e))
  exact ⟨h.chg.mono hs, fun g hg => by
    rcases h.now g hg with h1 | h1
    · exact .inl (hs g h1)
    · exact .inr h1⟩

theorem Mv.off {w w' : World} {M M' : List Nat} (h : Mv w w' M M') {g : Nat} (hg : g ∉ M) (hlt : g < w.heap.size) : g ∉ M' := fun e => by
  rcases h.now g e with h1 | h1
  · exact hg h1
  · omega

theorem R6.lt {w : World} {b o : Nat} {r : Pr} {ma ea : Option Addr} {lm mc le ec : Nat} (h : R6 w b o r ma lm mc ea le ec) : b < w.heap.size := World.block_lt_of_cell? w ⟨b, o, none⟩ h.c0

theorem R6.mv {w w' : World} {b o : Nat} {r : Pr} {ma ea : Option Addr} {lm mc le ec : Nat} {M M' : List Nat} (h : R6 w b o r ma lm mc ea le ec) (hm : Mv w w' M M') (hb : b ∉ M) : R6 w' b o r ma lm mc ea le ec :=
  ⟨hm.chg.cell h.c0 hb, hm.chg.cell h.c1 hb, hm.chg.cell h.c2 hb, hm.chg.cell h.c3 hb, hm.chg.cell h.c4 hb, hm.chg.cell h.c5 hb⟩

theorem r6_new (w : World) (r : Pr) (ma ea : Option Addr) (lm mc le ec B : Nat) (hB : w.heap.size = B) : R6 (w.alloc (.cells #[.int .i64 r.kind, .int .i64 r.epoch, .slice ma lm mc, .int .i64 r.pos, .int .i64 r.last, .slice ea le ec] 36)) B 0 r ma lm mc ea le ec := by
  subst hB
  exact ⟨by simp, by simp, by simp, by simp, by simp, by simp⟩

/-- The record of the fixed fact. -/
def sr : Pr := ⟨2, 0, [], 0, 0, []⟩

theorem sr_snd : sndR sr = true := by decide
theorem sr_wf : sr.Wf := ⟨⟨by decide, by decide⟩, ⟨by decide, by decide⟩, by simp [sr], ⟨by decide, by decide⟩, ⟨by decide, by decide⟩, by simp [sr]⟩
theorem sr_rec (w : World) : RecAt w none 0 none 0 sr := ⟨IntsAt.nil (Nat.zero_le _), EnsAt.nil (Nat.zero_le _), sr_wf⟩
theorem sr_len : (encR sr).length = 6 := by decide +kernel

theorem wrt_k1 (C : List Nat) (h : C.length = 6) : wrt ⟨[], 1000, false, false, 0⟩ (frm C) false = (0, ⟨frm C, 1000, false, false, 0⟩) := by
  unfold wrt
  simp [frm_len, h]
theorem wrt_k2 (C : List Nat) (h : C.length = 6) : wrt ⟨frm C, 1000, false, true, 5⟩ (frm C) false = (6, ⟨frm C ++ (frm C).take 5, 1000, true, true, 5⟩) := by
  unfold wrt
  simp [frm_len, h]

theorem R6.sr {w : World} {b : Nat} (h : R6 w b 0 sr none 0 0 none 0 0) : w.cell? ⟨b, 0, none⟩ = some (.int .i64 2) ∧ w.cell? ⟨b, 1, none⟩ = some (.int .i64 0) ∧ w.cell? ⟨b, 2, none⟩ = some (.slice none 0 0) ∧ w.cell? ⟨b, 3, none⟩ = some (.int .i64 0) ∧ w.cell? ⟨b, 4, none⟩ = some (.int .i64 0) ∧ w.cell? ⟨b, 5, none⟩ = some (.slice none 0 0) :=
  ⟨h.c0, h.c1, h.c2, h.c3, h.c4, h.c5⟩

theorem rob_sr (w : World) : Rob 0 0 w (Rl.ok ⟨sr, none, 0, none, 0, 0, 0⟩) := fun _ w2 _ _ => sr_rec w2

theorem encX_map (xs : List Rl) : xs.map encX = (xs.map Rl.r).map encR := by
  rw [List.map_map]
  rfl

theorem xs_mem {xs : List Rl} {rs : List Pr} (h : xs.map Rl.r = rs) {P : Pr → Prop} (hP : ∀ r ∈ rs, P r) : ∀ x ∈ xs, P x.r := fun x hx => hP _ (by rw [← h]; exact List.mem_map_of_mem hx)

theorem xs_len {xs : List Rl} {rs : List Pr} (h : xs.map Rl.r = rs) : xs.length = rs.length := by rw [← h, List.length_map]


set_option maxRecDepth 100000 in
set_option maxHeartbeats 2000000 in
theorem awake9 (w : World) :
    Calls Try.prog 19 #[] w fun e w' => e = .returned (.bool true) ∧ Below w.heap.size w w' := by
  have HCL := Lib.hid sr_len
  have HGD := Lib.hid (enc_good sr sr_wf sr_snd)
  have HDR := Lib.hid (dec_yes sr sr_wf sr_snd).2
  have K1 := Lib.hid (wrt_k1 _ sr_len)
  have K2 := Lib.hid (wrt_k2 _ sr_len)
  go_enter Try.func19, Try.ntmps19
  go_wp2_with fail
  refine (disk_new 1000 _).mono ?_
  rintro e w1 ⟨R, rfl, -, hd1, hb1⟩
  rw [show roomOf 1000 = 1000 by decide] at hd1
  have HD1 := Lib.hid hd1
  have E1 : Hid (Ext w w1) := hb1
  clear hd1 hb1
  go_wp2_with fail
  refine (bkOpen_any w.heap.size R none _ _ HD1.out rfl rfl).mono ?_
  rintro e w2 ⟨RB, a2, ga2, cs2, rest2, F2, rfl, hv2, hk2, hm2⟩
  obtain ⟨rfl, -⟩ := vld_none _ _ _ hv2 isF_nil
  have hk2' : Bk w2 w.heap.size RB R a2 ga2 ⟨[], 1000, false, false, 0⟩ [] F2 := hk2
  have H2 : Hid (St w w2 RB R a2 ga2 ⟨[], 1000, false, false, 0⟩ [] F2) := ⟨hk2', (hm2.below E1.out fun g hg => by simp [blk] at hg; subst hg; exact HD1.out.base).1⟩
  clear hk2 hk2' hm2 hv2 HD1
  have hX3 : R6 (w2.alloc (.cells #[.int .i64 2, .int .i64 0, .slice none 0 0, .int .i64 0, .int .i64 0, .slice none 0 0] 36)) w2.heap.size 0 sr none 0 0 none 0 0 := r6_new w2 sr none none 0 0 0 0 w2.heap.size rfl
  have hO3 : w2.heap.size ∉ bkM RB R a2 ga2 := fun e => by have := (H2.out.bk.mLt e).2; omega
  have H3 := Lib.hid (H2.out.below (below_one w2 (.cells #[.int .i64 2, .int .i64 0, .slice none 0 0, .int .i64 0, .int .i64 0, .slice none 0 0] 36)))
  have HX3 := Lib.hid hX3
  have HO3 := Lib.hid hO3
  clear H2 hO3 hX3
  generalize hB : w2.heap.size = B at *
  go_upto_region 4 with fail
  generalize (w2.alloc (.cells #[.int .i64 2, .int .i64 0, .slice none 0 0, .int .i64 0, .int .i64 0, .slice none 0 0] 36)) = w3 at *
  obtain ⟨x0, x1, x2, x3, x4, x5⟩ := HX3.out.sr
  go_wp2_with fail
  refine (bkAppend_yes w.heap.size RB R a2 ga2 _ [] F2 none none 0 0 0 0 sr _ H3.out.bk (by simp) (sr_rec _) rfl rfl sr_snd).mono ?_
  rw [K1.out]
  rintro e w4 ⟨rfl, a4, ga4, F4, hk4, hm4, -⟩
  rw [if_pos rfl, List.nil_append] at hk4
  have H4 := Lib.hid (H3.out.mv hk4 hm4)
  have HX4 := Lib.hid (HX3.out.mv hm4 HO3.out)
  have HO4 := Lib.hid (hm4.off HO3.out HX3.out.lt)
  clear hk4 hm4 H3 HX3 HO3 x0 x1 x2 x3 x4 x5
  go_wp2_with fail
  refine (disk_tear w.heap.size R a4 _ 5 _ H4.out.bk.dsk).mono ?_
  rintro e w5 ⟨rfl, hd5, hg5⟩
  have h5 := H4.out.done hd5 hg5
  have H5 : Hid (St w w5 RB R a4 ga4 ⟨frm (encR sr), 1000, false, true, 5⟩ [encR sr] F4) := h5.1
  have HX5 := Lib.hid (HX4.out.mv h5.2 HO4.out)
  have HO5 := Lib.hid (h5.2.off HO4.out HX4.out.lt)
  clear h5 hd5 hg5 H4 HX4 HO4
  obtain ⟨x0, x1, x2, x3, x4, x5⟩ := HX5.out.sr
  go_wp2_with fail
  refine (bkAppend_yes w.heap.size RB R a4 ga4 _ [encR sr] F4 none none 0 0 0 0 sr _ H5.out.bk (by simp) (sr_rec _) rfl rfl sr_snd).mono ?_
  rw [K2.out]
  rintro e w6 ⟨rfl, a6, ga6, F6, hk6, hm6, -⟩
  have H6 := Lib.hid (H5.out.mv hk6 hm6)
  have HX6 := Lib.hid (HX5.out.mv hm6 HO5.out)
  have HO6 := Lib.hid (hm6.off HO5.out HX5.out.lt)
  clear hk6 hm6 H5 HX5 HO5 x0 x1 x2 x3 x4 x5
  go_wp2_with fail
  refine (disk_start w.heap.size R a6 _ _ H6.out.bk.dsk).mono ?_
  rintro e w7 ⟨rfl, hd7, hg7⟩
  have h7 := H6.out.done hd7 hg7
  have HD7 : Hid (Dsk w7 w.heap.size R a6 ⟨frm (encR sr) ++ (frm (encR sr)).take 5, 1000, false, false, 5⟩) := hd7
  have H7 := Lib.hid h7.1
  have HX7 := Lib.hid (HX6.out.mv h7.2 HO6.out)
  have HO7 := Lib.hid (h7.2.off HO6.out HX6.out.lt)
  clear h7 hd7 hg7 H6 HX6 HO6
  go_wp2_with fail
  refine (bkOpen_any w.heap.size R a6 _ _ HD7.out rfl rfl).mono ?_
  rintro e w8 ⟨RB8, a8, ga8, cs8, rest8, F8, rfl, hv8, hk8, hm8⟩
  obtain ⟨rfl, -⟩ := vld_torn [encR sr] cs8 rest8 (encR sr) 5 (fun c hc => by rw [List.mem_singleton.mp hc]; exact HGD.out) HGD.out.2 (by rw [HCL.out]; omega) (by rw [frms_one]; exact hv8)
  have hm8' := hm8.opened (RB := RB) (ga := ga6)
  have H8 := Lib.hid (H7.out.mv hk8 hm8')
  have HX8 := Lib.hid (HX7.out.mv hm8' HO7.out)
  clear hk8 hm8 hm8' hv8 H7 HX7 HO7 HD7
  go_upto_region 9 with fail
  refine wp_region_S2 (Ext w8.drew) (by kernel_rfl) ?_
  have H9 := Lib.hid (H8.out.below (Below.drew (Below.refl _ w8)))
  have HX9 := Lib.hid (HX8.out.below (Below.drew (Below.refl _ w8)))
  have hSw := Ext.refl w8.drew
  clear H8 HX8
  generalize w8.drew = w9 at *
  refine wpAnyH_tkS2 (i := 0) 31 (v := ?_) rfl rfl (by kernel_rfl) (by kernel_rfl) (by kernel_rfl) (by rfl) hSw (fun wq hwq => ?_) ?_
  rotate_left
  · (have hx := True.intro; go_simp <;> with_reducible rfl)
  simp only [List.setIfInBounds_toArray, List.set_cons_zero, List.set_cons_succ]
  refine wpAnyH_tkS2 (i := 1) 32 (v := ?_) rfl rfl (by kernel_rfl) (by kernel_rfl) (by kernel_rfl) (by rfl) hSw (fun wq hwq => ?_) ?_
  rotate_left
  · (have hx := True.intro; go_simp <;> with_reducible rfl)
  simp only [List.setIfInBounds_toArray, List.set_cons_zero, List.set_cons_succ]
  refine wpAnyH_tkS2 (i := 2) 33 (v := ?_) rfl rfl (by kernel_rfl) (by kernel_rfl) (by kernel_rfl) (by rfl) hSw (fun wq hwq => ?_) ?_
  rotate_left
  · (have hx := True.intro; go_simp <;> with_reducible rfl)
  simp only [List.setIfInBounds_toArray, List.set_cons_zero, List.set_cons_succ]
  refine wpAnyH_tkS2 (i := 3) 34 (v := ?_) rfl rfl (by kernel_rfl) (by kernel_rfl) (by kernel_rfl) (by rfl) hSw (fun wq hwq => ?_) ?_
  rotate_left
  · (have hx := True.intro; go_simp <;> with_reducible rfl)
  simp only [List.setIfInBounds_toArray, List.set_cons_zero, List.set_cons_succ]
  refine wpAnyH_tkS2 (i := 4) 35 (v := ?_) rfl rfl (by kernel_rfl) (by kernel_rfl) (by kernel_rfl) (by rfl) hSw (fun wq hwq => ?_) ?_
  rotate_left
  · (have hx := True.intro; go_simp <;> with_reducible rfl)
  simp only [List.setIfInBounds_toArray, List.set_cons_zero, List.set_cons_succ]
  refine wpAnyH_tkS2 (i := 5) 36 (v := ?_) rfl rfl (by kernel_rfl) (by kernel_rfl) (by kernel_rfl) (by rfl) hSw (fun wq hwq => ?_) ?_
  rotate_left
  · (have hx := True.intro; go_simp <;> with_reducible rfl)
  simp only [List.setIfInBounds_toArray, List.set_cons_zero, List.set_cons_succ]
  refine wpAnyH_tkS2 (i := 6) 37 (v := ?_) rfl rfl (by kernel_rfl) (by kernel_rfl) (by kernel_rfl) (by rfl) hSw (fun wq hwq => ?_) ?_
  rotate_left
  · (have hx := True.intro; go_simp <;> with_reducible rfl)
  simp only [List.setIfInBounds_toArray, List.set_cons_zero, List.set_cons_succ]
  refine wpAnyH_tkS2 (i := 7) 38 (v := ?_) rfl rfl (by kernel_rfl) (by kernel_rfl) (by kernel_rfl) (by rfl) hSw (fun wq hwq => ?_) ?_
  rotate_left
  · (have hx := True.intro; go_simp <;> with_reducible rfl)
  simp only [List.setIfInBounds_toArray, List.set_cons_zero, List.set_cons_succ]
  refine wpAnyH_tkS2 (i := 8) 39 (v := ?_) rfl rfl (by kernel_rfl) (by kernel_rfl) (by kernel_rfl) (by rfl) hSw (fun wq hwq => ?_) ?_
  rotate_left
  · (have hx := True.intro; go_simp <;> with_reducible rfl)
  simp only [List.setIfInBounds_toArray, List.set_cons_zero, List.set_cons_succ]
  refine wpAnyH_tkS2 (i := 9) 40 (v := ?_) rfl rfl (by kernel_rfl) (by kernel_rfl) (by kernel_rfl) (by rfl) hSw (fun wq hwq => ?_) ?_
  rotate_left
  · (have hx := True.intro; go_simp <;> with_reducible rfl)
  simp only [List.setIfInBounds_toArray, List.set_cons_zero, List.set_cons_succ]
  refine wpAnyH_tkS2 (i := 10) 41 (v := ?_) rfl rfl (by kernel_rfl) (by kernel_rfl) (by kernel_rfl) (by rfl) hSw (fun wq hwq => ?_) ?_
  rotate_left
  · (have hx := True.intro; go_simp <;> with_reducible rfl)
  simp only [List.setIfInBounds_toArray, List.set_cons_zero, List.set_cons_succ]
  refine wpAnyH_tkS2 (i := 11) 42 (v := ?_) rfl rfl (by kernel_rfl) (by kernel_rfl) (by kernel_rfl) (by rfl) hSw (fun wq hwq => ?_) ?_
  rotate_left
  · (have hx := True.intro; go_simp <;> with_reducible rfl)
  simp only [List.setIfInBounds_toArray, List.set_cons_zero, List.set_cons_succ]
  refine wpAnyH_tkS2 (i := 12) 43 (v := ?_) rfl rfl (by kernel_rfl) (by kernel_rfl) (by kernel_rfl) (by rfl) hSw (fun wq hwq => ?_) ?_
  rotate_left
  · (have hx := True.intro; go_simp <;> with_reducible rfl)
  simp only [List.setIfInBounds_toArray, List.set_cons_zero, List.set_cons_succ]
  refine wpAnyH_tkS2 (i := 13) 44 (v := ?_) rfl rfl (by kernel_rfl) (by kernel_rfl) (by kernel_rfl) (by rfl) hSw (fun wq hwq => ?_) ?_
  rotate_left
  · (have hx := True.intro; go_simp <;> with_reducible rfl)
  simp only [List.setIfInBounds_toArray, List.set_cons_zero, List.set_cons_succ]
  refine wpAnyH_tkS2 (i := 14) 45 (v := ?_) rfl rfl (by kernel_rfl) (by kernel_rfl) (by kernel_rfl) (by rfl) hSw (fun wq hwq => ?_) ?_
  rotate_left
  · (have hx := True.intro; go_simp <;> with_reducible rfl)
  simp only [List.setIfInBounds_toArray, List.set_cons_zero, List.set_cons_succ]
  refine wpAnyH_tkS2 (i := 15) 46 (v := ?_) rfl rfl (by kernel_rfl) (by kernel_rfl) (by kernel_rfl) (by rfl) hSw (fun wq hwq => ?_) ?_
  rotate_left
  · (have hx := True.intro; go_simp <;> with_reducible rfl)
  simp only [List.setIfInBounds_toArray, List.set_cons_zero, List.set_cons_succ]
  refine wpAnyH_tkS2 (i := 17) 48 (v := ?_) rfl rfl (by kernel_rfl) (by kernel_rfl) (by kernel_rfl) (by rfl) hSw (fun wq hwq => ?_) ?_
  rotate_left
  · (obtain ⟨x0, x1, x2, x3, x4, x5⟩ := (HX9.out.below hwq).sr; go_simp <;> with_reducible rfl)
  simp only [List.setIfInBounds_toArray, List.set_cons_zero, List.set_cons_succ]
  refine wpAnyH_twoS2 (i := 16) (j := 18) rfl rfl (by kernel_rfl) (by rfl) (by rfl) (fun K hK => ?_) (fun K hK => ?_)
  · go_simp
    refine (bkRecords_any w.heap.size RB8 R a8 ga8 _ [encR sr] F8 _ H9.out.bk (by simp) (fun c hc => by rw [List.mem_singleton.mp hc]; exact ⟨HGD.out.1, by rw [HCL.out]; omega⟩)).mono ?_
    rintro e w10 ⟨va, vc, xs, rfl, hxs, hrc, _, hb10⟩
    rw [List.map_cons, List.map_nil, HDR.out] at hxs
    have HXS := Lib.hid hxs
    have HRC := Lib.hid hrc.at_
    have hb11 := below_one w10 (.cells #[.int .i64 2, .int .i64 0, .slice none 0 0, .int .i64 0, .int .i64 0, .slice none 0 0] 36)
    have HRC1 := Lib.hid (HRC.out.below hb11)
    have HLT : Hid (RcA (w10.alloc (.cells #[.int .i64 2, .int .i64 0, .slice none 0 0, .int .i64 0, .int .i64 0, .slice none 0 0] 36)) (some ⟨w10.heap.size, 0, none⟩) 1 [⟨sr, none, 0, none, 0, 0, 0⟩]) := rca_box sr none none 0 0 0 0 0 0 w10.heap.size rfl rfl rfl (rob_sr _)
    refine hK.out _ _ (Ext w10) (fun x h => Ext.trans hb10 h) (Ext.refl w10) ?_
    clear hK K
    have E11 := Lib.hid (Ext.trans (Ext.trans H9.out.bel hb10) hb11)
    clear hSw hxs hrc hb10
    refine wpAnyH_oneS2 (i := 18) rfl (by kernel_rfl) (by rfl) (fun K hK => ?_)
    go_simp
    refine hK.out _ _ (Ext (w10.alloc (.cells #[.int .i64 2, .int .i64 0, .slice none 0 0, .int .i64 0, .int .i64 0, .slice none 0 0] 36))) (fun x h => Ext.trans hb11 h) (Ext.refl _) ?_
    clear hK K
    clear hb11
    refine wpAnyH_oneS2 (i := 19) rfl (by kernel_rfl) (by rfl) (fun K hK => ?_)
    go_simp
    refine (sameRecs_any _ _ _ _ 1 _ _ _ (xs_len HXS.out) HRC1.out rfl HLT.out (xs_mem HXS.out (fun r hr => by rw [List.mem_singleton.mp hr]; exact small_of sr_snd)) (fun x hx => by rw [List.mem_singleton.mp hx]; exact small_of sr_snd)).mono ?_
    rw [encX_map xs, HXS.out]
    rintro e w12 ⟨rfl, hb12⟩
    rw [show decide ([sr].map encR = [(⟨sr, none, 0, none, 0, 0, 0⟩ : Rl)].map encX) = true from decide_eq_true rfl]
    have E12 := Lib.hid (Ext.trans E11.out hb12)
    refine hK.out _ _ (Ext w12) (fun x h => Ext.trans hb12 h) (Ext.refl _) ?_
    clear hK K
    clear hb12
    have hSw := Ext.refl w12
    refine wpAnyH_tkS2 (i := 20) 51 (v := ?_) rfl rfl (by kernel_rfl) (by kernel_rfl) (by kernel_rfl) (by rfl) hSw (fun wq hwq => ?_) ?_
    rotate_left
    · (have hx := True.intro; go_simp <;> with_reducible rfl)
    simp only [List.setIfInBounds_toArray, List.set_cons_zero, List.set_cons_succ]
    refine wpAnyH_tkS2 (i := 21) 0 (v := ?_) rfl rfl (by kernel_rfl) (by kernel_rfl) (by kernel_rfl) (by rfl) hSw (fun wq hwq => ?_) ?_
    rotate_left
    · (have hx := True.intro; go_simp <;> with_reducible rfl)
    simp only [List.setIfInBounds_toArray, List.set_cons_zero]
    refine wpAnyH_done (by kernel_rfl) ?_ _
    refine NoPanic.normal ?_
    go_wp2
    go_ret
    exact ⟨rfl, E12.out⟩
  · go_simp
    have hb10 := below_one w9 (.cells #[.int .i64 2, .int .i64 0, .slice none 0 0, .int .i64 0, .int .i64 0, .slice none 0 0] 36)
    have HLT : Hid (RcA (w9.alloc (.cells #[.int .i64 2, .int .i64 0, .slice none 0 0, .int .i64 0, .int .i64 0, .slice none 0 0] 36)) (some ⟨w9.heap.size, 0, none⟩) 1 [⟨sr, none, 0, none, 0, 0, 0⟩]) := rca_box sr none none 0 0 0 0 0 0 w9.heap.size rfl rfl rfl (rob_sr _)
    have H10 := Lib.hid (H9.out.below hb10)
    refine hK.out _ _ (Ext (w9.alloc (.cells #[.int .i64 2, .int .i64 0, .slice none 0 0, .int .i64 0, .int .i64 0, .slice none 0 0] 36))) (fun x h => Ext.trans hb10 h) (Ext.refl _) ?_
    clear hK K
    clear hSw hb10
    generalize w9.heap.size = B9 at *
    generalize (w9.alloc (.cells #[.int .i64 2, .int .i64 0, .slice none 0 0, .int .i64 0, .int .i64 0, .slice none 0 0] 36)) = w10 at *
    refine wpAnyH_oneS2 (i := 16) rfl (by kernel_rfl) (by rfl) (fun K hK => ?_)
    go_simp
    refine (bkRecords_any w.heap.size RB8 R a8 ga8 _ [encR sr] F8 _ H10.out.bk (by simp) (fun c hc => by rw [List.mem_singleton.mp hc]; exact ⟨HGD.out.1, by rw [HCL.out]; omega⟩)).mono ?_
    rintro e w11 ⟨va, vc, xs, rfl, hxs, hrc, _, hb11⟩
    rw [List.map_cons, List.map_nil, HDR.out] at hxs
    have HXS := Lib.hid hxs
    have HRC1 := Lib.hid hrc.at_
    have HLT1 := Lib.hid (HLT.out.below hb11)
    have E11 := Lib.hid (Ext.trans H10.out.bel hb11)
    refine hK.out _ _ (Ext w11) (fun x h => Ext.trans hb11 h) (Ext.refl w11) ?_
    clear hK K
    clear hxs hrc hb11
    refine wpAnyH_oneS2 (i := 19) rfl (by kernel_rfl) (by rfl) (fun K hK => ?_)
    go_simp
    refine (sameRecs_any _ _ _ _ 1 _ _ _ (xs_len HXS.out) HRC1.out rfl HLT1.out (xs_mem HXS.out (fun r hr => by rw [List.mem_singleton.mp hr]; exact small_of sr_snd)) (fun x hx => by rw [List.mem_singleton.mp hx]; exact small_of sr_snd)).mono ?_
    rw [encX_map xs, HXS.out]
    rintro e w12 ⟨rfl, hb12⟩
    rw [show decide ([sr].map encR = [(⟨sr, none, 0, none, 0, 0, 0⟩ : Rl)].map encX) = true from decide_eq_true rfl]
    have E12 := Lib.hid (Ext.trans E11.out hb12)
    refine hK.out _ _ (Ext w12) (fun x h => Ext.trans hb12 h) (Ext.refl _) ?_
    clear hK K
    clear hb12
    have hSw := Ext.refl w12
    refine wpAnyH_tkS2 (i := 20) 51 (v := ?_) rfl rfl (by kernel_rfl) (by kernel_rfl) (by kernel_rfl) (by rfl) hSw (fun wq hwq => ?_) ?_
    rotate_left
    · (have hx := True.intro; go_simp <;> with_reducible rfl)
    simp only [List.setIfInBounds_toArray, List.set_cons_zero, List.set_cons_succ]
    refine wpAnyH_tkS2 (i := 21) 0 (v := ?_) rfl rfl (by kernel_rfl) (by kernel_rfl) (by kernel_rfl) (by rfl) hSw (fun wq hwq => ?_) ?_
    rotate_left
    · (have hx := True.intro; go_simp <;> with_reducible rfl)
    simp only [List.setIfInBounds_toArray, List.set_cons_zero]
    refine wpAnyH_done (by kernel_rfl) ?_ _
    refine NoPanic.normal ?_
    go_wp2
    go_ret
    exact ⟨rfl, E12.out⟩

/-! No book. -/

set_option maxHeartbeats 1000000 in
theorem bkOpen_nil (w : World) : Calls Try.prog 8 #[.pointer none] w fun e w' => e = .returned (.tuple #[.pointer none, .int .i64 1]) ∧ w = w' := by
  go_enter Try.func8, Try.ntmps8
  go_wp2_with fail
  refine (read_nil _).mono ?_
  rintro e w' ⟨rfl, rfl⟩
  go_wp2
  go_ret2
  exact ⟨rfl, rfl⟩

set_option maxHeartbeats 1000000 in
theorem bkAppend_nil (ma ea : Option Addr) (mc ec lm le : Nat) (k ep p la : Int) (w : World) :
    Calls Try.prog 12 #[.pointer none, .agg #[.int .i64 k, .int .i64 ep, .slice ma lm mc, .int .i64 p, .int .i64 la, .slice ea le ec]] w fun e w' => e = .returned (.int .i64 1) ∧ Below w.heap.size w w' := by
  go_enter Try.func12, Try.ntmps12
  go_wp2
  go_ret
  exact ⟨rfl, below_one _ _⟩

set_option maxHeartbeats 1000000 in
theorem bkRenew_nil (a : Option Addr) (l c : Nat) (w : World) :
    Calls Try.prog 13 #[.pointer none, .slice a l c] w fun e w' => e = .returned (.int .i64 1) ∧ w = w' := by
  go_enter Try.func13, Try.ntmps13
  go_wp2
  go_ret
  exact ⟨rfl, rfl⟩

set_option maxHeartbeats 1000000 in
theorem bkRecords_nil (w : World) :
    Calls Try.prog 18 #[.pointer none] w fun e w' => e = .returned (.slice none 0 0) ∧ w = w' := by
  go_enter Try.func18, Try.ntmps18
  go_wp2
  go_ret
  exact ⟨rfl, rfl⟩

set_option maxRecDepth 100000 in
set_option maxHeartbeats 2000000 in
theorem bookNone_walk (ma ea : Option Addr) (mc ec : Nat) (r : Pr) (w : World) (_ : RecAt w ma mc ea ec r) :
    Calls Try.prog 5 #[.agg #[.int .i64 r.kind, .int .i64 r.epoch, .slice ma r.mem.length mc, .int .i64 r.pos, .int .i64 r.last, .slice ea r.ents.length ec]] w fun e w' => e = .returned (.bool true) ∧ Below w.heap.size w w' := by
  obtain ⟨lm, hlm⟩ : ∃ q, r.mem.length = q := ⟨_, rfl⟩
  obtain ⟨le, hle⟩ : ∃ q, r.ents.length = q := ⟨_, rfl⟩
  rw [hlm, hle]
  have HX0 := Lib.hid (r6_new w r ma ea lm mc le ec w.heap.size rfl)
  have E0 : Hid (Ext w (w.alloc (.cells #[.int .i64 r.kind, .int .i64 r.epoch, .slice ma lm mc, .int .i64 r.pos, .int .i64 r.last, .slice ea le ec] 36))) := below_one w _
  clear hlm hle
  go_enter Try.func5, Try.ntmps5
  go_wp2_with fail
  refine (bkOpen_nil _).mono ?_
  rintro e w' ⟨rfl, rfl⟩
  go_wp2_with fail
  refine (awake9 _).mono ?_
  rintro e w2 ⟨rfl, hb2⟩
  have HX2 := Lib.hid (HX0.out.below hb2)
  have E2 := Lib.hid (E0.out.trans hb2)
  have x0 := HX2.out.c0
  have x1 := HX2.out.c1
  have x2 := HX2.out.c2
  have x3 := HX2.out.c3
  have x4 := HX2.out.c4
  have x5 := HX2.out.c5
  clear hb2
  go_wp2_with fail
  refine (bkAppend_nil _ _ _ _ _ _ _ _ _ _ _).mono ?_
  rintro e w3 ⟨rfl, hb3⟩
  have HX3 := Lib.hid (HX2.out.below hb3)
  have E3 := Lib.hid (E2.out.trans hb3)
  clear x0 x1 x2 x3 x4 x5 hb3
  have x0 := HX3.out.c0
  have x1 := HX3.out.c1
  have x2 := HX3.out.c2
  have x3 := HX3.out.c3
  have x4 := HX3.out.c4
  have x5 := HX3.out.c5
  have E4 := Lib.hid (E3.out.trans (below_one w3 (.cells #[.int .i64 r.kind, .int .i64 r.epoch, .slice ma lm mc, .int .i64 r.pos, .int .i64 r.last, .slice ea le ec] 36)))
  go_wp2_with fail
  refine (bkRenew_nil _ _ _ _).mono ?_
  rintro e w' ⟨rfl, rfl⟩
  go_wp2_with fail
  refine (bkRecords_nil _).mono ?_
  rintro e w' ⟨rfl, rfl⟩
  go_wp2
  go_ret
  exact ⟨rfl, E4.out⟩

end Go.Proofs.Ytfcjnhcolkpppaa
