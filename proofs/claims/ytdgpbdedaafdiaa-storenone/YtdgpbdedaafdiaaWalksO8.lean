/-
  store: Stage, Activate.
-/
import Derived.Test.YtdgpbdedaafdiaaWalksO7
import Derived.Deep.DeepCutAuto
namespace Go.Proofs.Ytdgpbdedaafdiaa
open Go.RowKit



section
variable {w w' : World} {base SB R : Nat} {M : List Nat} {d : DS} {rs : List Pr} {s : Ss}

set_option maxRecDepth 100000 in
set_option maxHeartbeats 4000000 in
theorem stStage_any (c pos last : Int) (ma ea : Option Addr) (mc ec lm le : Nat) (m : List Int) (es : List Pe) (hlm : m.length = lm) (hle : es.length = le) (h : So w base SB R M d rs s) (hl : rs.length ≤ 100000) (hr : Kp M w fun x => RecAt x ma mc ea ec (recStage c m pos last es)) (h6 : es.length ≤ 6) :
    Calls Try.prog 18 #[.pointer (some ⟨SB, 0, none⟩), .agg #[.int .i64 c, .slice ma lm mc], .int .i64 pos, .int .i64 last, .slice ea le ec] w (RetMu w base SB R M (act d rs (preStage s c) (recStage c m pos last es) false).1 (act d rs (preStage s c) (recStage c m pos last es) false).2) := by
  have hlen := h.len
  have HLM := Lib.hid hlm
  have HLE := Lib.hid hle
  have H6 := Lib.hid h6
  have hbl := below_one w (.cells #[.int .i64 c, .slice ma lm mc] 35)
  have HB0 : Hid (Box (w.alloc (.cells #[.int .i64 c, .slice ma lm mc] 35)) w.heap.size #[.int .i64 c, .slice ma lm mc]) := box_new _ _ _ _ rfl
  have HE0 := Lib.hid hbl
  have HS := Lib.hid (h.below hbl)
  have HM := Lib.hid (hr.below hbl)
  have HW := Lib.hid hr.now.wf
  clear h hr hlm hle hbl h6
  go_enter Try.func18, Try.ntmps18
  go_wp2_with fail
  generalize (w.alloc (.cells #[.int .i64 c, .slice ma lm mc] 35)) = w0 at *
  obtain ⟨hrun, hg, L, rfl, hx⟩ := HS.out
  have HRUN := Lib.hid hrun
  have HG := Lib.hid hg
  have HX := Lib.hid hx
  have HC2 : Hid (w0.cell? ⟨SB, 2, none⟩ = some (.int .i64 s.now.epoch)) := hx.box.cell 2 _ rfl
  have HC9 : Hid (w0.cell? ⟨SB, 9, none⟩ = some (.int .i64 s.staged.epoch)) := hx.box.cell 9 _ rfl
  clear hx hg hrun
  refine wp_region_ext (by kernel_rfl) ?_
  have E0 : Hid (Ext w0 w0.drew) := (Below.refl _ w0).drew
  have hC2 : w0.drew.cell? ⟨SB, 2, none⟩ = some (.int .i64 s.now.epoch) := HC2.out
  have hC9 : w0.drew.cell? ⟨SB, 9, none⟩ = some (.int .i64 s.staged.epoch) := HC9.out
  have hY0 : w0.drew.cell? ⟨w.heap.size, 0, none⟩ = some (.int .i64 c) := (box2 HB0.out).1
  have HE2 : Hid (Below w.heap.size w w0.drew) := HE0.out.drew
  have HS2 := Lib.hid (HS.out.below E0.out)
  have HX2 := Lib.hid (HX.out.below E0.out)
  have HM2 := Lib.hid (HM.out.below E0.out)
  have HB2 := Lib.hid (HB0.out.below E0.out)
  clear HS HX HM HB0 HC2 HC9 HE0
  generalize w0.drew = w2 at *
  refine wpAnyH_tk (i := 0) 13 (v := ?_) rfl rfl (by kernel_rfl) (by kernel_rfl) (by kernel_rfl) (by rfl) (fun wq hwq => ?_) ?_
  rotate_left
  · (go_simp <;> with_reducible rfl)
  simp only [List.setIfInBounds_toArray, List.set_cons_zero, List.set_cons_succ]
  refine wpAnyH_tk (i := 1) 14 (v := ?_) rfl rfl (by kernel_rfl) (by kernel_rfl) (by kernel_rfl) (by rfl) (fun wq hwq => ?_) ?_
  rotate_left
  · (have hx := cell_later hwq hY0; go_simp <;> with_reducible rfl)
  simp only [List.setIfInBounds_toArray, List.set_cons_zero, List.set_cons_succ]
  refine wpAnyH_tk (i := 2) 15 (v := ?_) rfl rfl (by kernel_rfl) (by kernel_rfl) (by kernel_rfl) (by rfl) (fun wq hwq => ?_) ?_
  rotate_left
  · (go_simp <;> with_reducible rfl)
  simp only [List.setIfInBounds_toArray, List.set_cons_zero, List.set_cons_succ]
  refine wpAnyH_tk (i := 3) 16 (v := ?_) rfl rfl (by kernel_rfl) (by kernel_rfl) (by kernel_rfl) (by rfl) (fun wq hwq => ?_) ?_
  rotate_left
  · (go_simp <;> with_reducible rfl)
  simp only [List.setIfInBounds_toArray, List.set_cons_zero, List.set_cons_succ]
  refine wpAnyH_tk (i := 4) 17 (v := ?_) rfl rfl (by kernel_rfl) (by kernel_rfl) (by kernel_rfl) (by rfl) (fun wq hwq => ?_) ?_
  rotate_left
  · (go_simp <;> with_reducible rfl)
  simp only [List.setIfInBounds_toArray, List.set_cons_zero, List.set_cons_succ]
  refine wpAnyH_tk (i := 5) 18 (v := ?_) rfl rfl (by kernel_rfl) (by kernel_rfl) (by kernel_rfl) (by rfl) (fun wq hwq => ?_) ?_
  rotate_left
  · (go_simp <;> with_reducible rfl)
  simp only [List.setIfInBounds_toArray, List.set_cons_zero, List.set_cons_succ]
  refine wpAnyH_tk (i := 6) 19 (v := ?_) rfl rfl (by kernel_rfl) (by kernel_rfl) (by kernel_rfl) (by rfl) (fun wq hwq => ?_) ?_
  rotate_left
  · (go_simp <;> with_reducible rfl)
  simp only [List.setIfInBounds_toArray, List.set_cons_zero, List.set_cons_succ]
  refine wpAnyH_tk (i := 7) 20 (v := ?_) rfl rfl (by kernel_rfl) (by kernel_rfl) (by kernel_rfl) (by rfl) (fun wq hwq => ?_) ?_
  rotate_left
  · (have hx := cell_later hwq hC2; go_simp <;> with_reducible rfl)
  simp only [List.setIfInBounds_toArray, List.set_cons_zero, List.set_cons_succ]
  refine wpAnyH_tk (i := 8) 21 (v := ?_) rfl rfl (by kernel_rfl) (by kernel_rfl) (by kernel_rfl) (by rfl) (fun wq hwq => ?_) ?_
  rotate_left
  · (go_simp <;> with_reducible rfl)
  simp only [List.setIfInBounds_toArray, List.set_cons_zero, List.set_cons_succ]
  refine wpAnyH_tk (i := 9) 22 (v := ?_) rfl rfl (by kernel_rfl) (by kernel_rfl) (by kernel_rfl) (by rfl) (fun wq hwq => ?_) ?_
  rotate_left
  · (go_simp <;> with_reducible rfl)
  simp only [List.setIfInBounds_toArray, List.set_cons_zero, List.set_cons_succ]
  refine wpAnyH_tk (i := 10) 23 (v := ?_) rfl rfl (by kernel_rfl) (by kernel_rfl) (by kernel_rfl) (by rfl) (fun wq hwq => ?_) ?_
  rotate_left
  · (go_simp <;> with_reducible rfl)
  simp only [List.setIfInBounds_toArray, List.set_cons_zero, List.set_cons_succ]
  refine wpAnyH_tk (i := 11) 24 (v := ?_) rfl rfl (by kernel_rfl) (by kernel_rfl) (by kernel_rfl) (by rfl) (fun wq hwq => ?_) ?_
  rotate_left
  · (go_simp <;> with_reducible rfl)
  simp only [List.setIfInBounds_toArray, List.set_cons_zero, List.set_cons_succ]
  refine wpAnyH_tk (i := 12) 25 (v := ?_) rfl rfl (by kernel_rfl) (by kernel_rfl) (by kernel_rfl) (by rfl) (fun wq hwq => ?_) ?_
  rotate_left
  · (go_simp <;> with_reducible rfl)
  simp only [List.setIfInBounds_toArray, List.set_cons_zero, List.set_cons_succ]
  refine wpAnyH_tk (i := 13) 26 (v := ?_) rfl rfl (by kernel_rfl) (by kernel_rfl) (by kernel_rfl) (by rfl) (fun wq hwq => ?_) ?_
  rotate_left
  · (have hx := cell_later hwq hC9; go_simp <;> with_reducible rfl)
  simp only [List.setIfInBounds_toArray, List.set_cons_zero, List.set_cons_succ]
  have HPD : Hid (preStage s c = if c ≤ s.now.epoch ∨ c ≤ s.staged.epoch then some 8 else none) := rfl
  generalize s.now.epoch = q1 at *
  generalize s.staged.epoch = q2 at *
  obtain ⟨q, hq, hqv⟩ : ∃ q : Int, (∀ x : Int, x ≤ q ↔ x ≤ q1 ∨ x ≤ q2) ∧ q = (if q1 < q2 then q2 else q1) := ⟨_, fun x => by split <;> omega, rfl⟩
  have HQ := Lib.hid hq
  clear hq
  refine wpAnyH_tk (i := 14) 27 (v := .int .i64 q) rfl rfl (by kernel_rfl) (by kernel_rfl) (by kernel_rfl) (by rfl) (fun wq hwq => ?_) ?_
  · rw [hqv]
    go_simp
  simp only [List.setIfInBounds_toArray, List.set_cons_zero, List.set_cons_succ]
  clear hqv
  refine wpAnyH_tk (i := 15) 28 (v := ?_) rfl rfl (by kernel_rfl) (by kernel_rfl) (by kernel_rfl) (by rfl) (fun wq hwq => ?_) ?_
  rotate_left
  · (go_simp <;> with_reducible rfl)
  simp only [List.setIfInBounds_toArray, List.set_cons_zero, List.set_cons_succ]
  refine wpAnyH_done (by kernel_rfl) ?_ _
  refine NoPanic.normal ?_
  obtain ⟨y0, y1⟩ := box2 HB2.out
  clear hC2 hC9 hY0
  by_cases h0 : c ≤ q
  · have d0 : decide (c ≤ q) = true := decide_eq_true h0
    rw [d0]
    have HP : Hid (preStage s c = some 8) := by show _ = _; rw [HPD.out]; exact if_pos ((HQ.out c).1 h0)
    have HF : Hid (RetMu w base SB R (L.M SB R) (act d rs (preStage s c) (recStage c m pos last es) false).1 (act d rs (preStage s c) (recStage c m pos last es) false).2 (.returned (.int .i64 8)) w2) := by
      refine RetMu.bel ?_ HE2.out
      rw [HP.out]
      exact HS2.out.told 8 (Below.refl _ _)
    clear h0 d0
    go_wp2
    go_ret
    exact HF.out
  · have d0 : decide (c ≤ q) = false := decide_eq_false h0
    rw [d0]
    have HP : Hid (preStage s c = none) := by show _ = _; rw [HPD.out]; exact if_neg fun e => h0 ((HQ.out c).2 e)
    clear h0 d0
    go_wp2_with fail
    refine (stAdd_any (r := recStage c m pos last es) HX2.out HM2.out HLM.out HLE.out (by omega) (by rw [List.length_map]; omega)).mono ?_
    intro e w3 hw
    have HF : Hid (RetMu w base SB R (L.M SB R) (act d rs (preStage s c) (recStage c m pos last es) false).1 (act d rs (preStage s c) (recStage c m pos last es) false).2 e w3) := by
      refine RetMu.bel ?_ HE2.out
      rw [HP.out]
      exact hw.mu HRUN.out HG.out (fun h => ⟨h, HW.out, H6.out, fun e => by cases e⟩) (fun e => by cases e)
    obtain ⟨rfl, -⟩ := hw
    generalize wq d (recStage c m pos last es) false = p at *
    go_wp2
    go_ret
    exact HF.out

set_option maxRecDepth 100000 in
set_option maxHeartbeats 4000000 in
theorem stActivate_any (n : Int) (h : So w base SB R M d rs s) (hl : rs.length ≤ 100000) :
    Calls Try.prog 19 #[.pointer (some ⟨SB, 0, none⟩), .int .i64 n] w (RetMu w base SB R M (act d rs (preActivate s n) (recAct s) true).1 (act d rs (preActivate s n) (recAct s) true).2) := by
  have hlen := h.len
  have HOK := Lib.hid h.ok.stg
  have HS := Lib.hid h
  obtain ⟨hrun, hg, L, rfl, hx⟩ := h
  have HRUN := Lib.hid hrun
  have HG := Lib.hid hg
  have HX := Lib.hid hx
  obtain ⟨lm, hlm⟩ : ∃ q, s.staged.mem.length = q := ⟨_, rfl⟩
  obtain ⟨le, hle⟩ : ∃ q, s.staged.ents.length = q := ⟨_, rfl⟩
  have HLM := Lib.hid hlm
  have HLE := Lib.hid hle
  have c8 : w.cell? ⟨SB, 8, none⟩ = some (.int .i64 s.staged.kind) := hx.box.cell 8 _ rfl
  have c9 : w.cell? ⟨SB, 9, none⟩ = some (.int .i64 s.staged.epoch) := hx.box.cell 9 _ rfl
  have c10 : w.cell? ⟨SB, 10, none⟩ = some (.slice L.xa lm L.xc) := hx.box.cell 10 _ (by rw [← hlm]; rfl)
  have c11 : w.cell? ⟨SB, 11, none⟩ = some (.int .i64 s.staged.pos) := hx.box.cell 11 _ rfl
  have c12 : w.cell? ⟨SB, 12, none⟩ = some (.int .i64 s.staged.last) := hx.box.cell 12 _ rfl
  have c13 : w.cell? ⟨SB, 13, none⟩ = some (.slice L.ya le L.yc) := hx.box.cell 13 _ (by rw [← hle]; rfl)
  have HZ0 : Hid (Bx (w.alloc (.cells #[.int .i64 0, .int .i64 0, .slice none 0 0, .int .i64 0, .int .i64 0, .slice none 0 0] 38)) w.heap.size 38 #[.int .i64 0, .int .i64 0, .slice none 0 0, .int .i64 0, .int .i64 0, .slice none 0 0]) := bx_new8 _ _ _
  have HE0 := Lib.hid (below_one w (.cells #[.int .i64 0, .int .i64 0, .slice none 0 0, .int .i64 0, .int .i64 0, .slice none 0 0] 38))
  clear hx hg hrun hlm hle
  go_enter Try.func19, Try.ntmps19
  by_cases h0 : n < 1 ∨ n ≠ s.staged.epoch
  · have HP : Hid (preActivate s n = some 8) := if_pos h0
    have HF : Hid (RetMu w base SB R (L.M SB R) (act d rs (preActivate s n) (recAct s) true).1 (act d rs (preActivate s n) (recAct s) true).2 (.returned (.int .i64 8)) w) := by
      rw [HP.out]
      exact HS.out.told 8 (Below.refl _ _)
    by_cases h1 : n < 1
    · have d1 : decide (n < 1) = true := decide_eq_true h1
      clear h0 h1
      go_wp2
      go_ret
      exact HF.out
    · have d1 : decide (n < 1) = false := decide_eq_false h1
      have d2 : (n != s.staged.epoch) = true := by
        rcases h0 with h | h
        · exact absurd h h1
        · simp [h]
      clear h0 h1
      go_wp2
      go_ret
      exact HF.out
  · have h1 : ¬ n < 1 := fun e => h0 (.inl e)
    have h2 : n = s.staged.epoch := Decidable.byContradiction fun e => h0 (.inr e)
    have d1 : decide (n < 1) = false := decide_eq_false h1
    have d2 : (n != s.staged.epoch) = false := by simp [h2]
    have HP : Hid (preActivate s n = none) := if_neg h0
    have HGR : Hid (Gr s.staged) := by
      rcases HOK.out with e | e
      · rw [e] at h2
        exact absurd (show n < 1 by rw [h2]; decide) h1
      · exact e.1
    clear h0 h1 h2
    go_wp2_with (refine wpList_st 38 6 w.heap.size 0 38 #[.int .i64 s.staged.kind, .int .i64 s.staged.epoch, .slice L.xa lm L.xc, .int .i64 s.staged.pos, .int .i64 s.staged.last, .slice L.ya le L.yc] _ #[.int .i64 s.staged.kind, .int .i64 s.staged.epoch, .slice L.xa lm L.xc, .int .i64 s.staged.pos, .int .i64 s.staged.last, .slice L.ya le L.yc] (.tmp 5) (.tmp 23) rfl rfl rfl rfl rfl (by kernel_rfl) rfl HZ0.out (by show 6 ≤ 6; omega) (by simp [Value.oneCell']) rfl ?_; intro w2 hb2 hc2; have f0 := hb2.free 0; have k0 := hb2.cell 0 (.int .i64 s.staged.kind) rfl; have k1 := hb2.cell 1 (.int .i64 s.staged.epoch) rfl; have k2 := hb2.cell 2 (.slice L.xa lm L.xc) rfl; have k3 := hb2.cell 3 (.int .i64 s.staged.pos) rfl; have k4 := hb2.cell 4 (.int .i64 s.staged.last) rfl; have k5 := hb2.cell 5 (.slice L.ya le L.yc) rfl; have HB3 := Lib.hid (hb2.set (C' := #[.int .i64 4, .int .i64 s.staged.epoch, .slice L.xa lm L.xc, .int .i64 s.staged.pos, .int .i64 s.staged.last, .slice L.ya le L.yc]) 0 (.int .i64 4) rfl); have HE3 : Hid (Below w.heap.size w (w2.setCell ⟨w.heap.size, 0, none⟩ (.int .i64 4))) := (hc2.trans (chg_set1 w2 w.heap.size 0 (.int .i64 4))).below HE0.out HE0.out.size (by simp); have HX3 := Lib.hid (HX.out.below HE3.out); clear hc2 hb2 c8 c9 c10 c11 c12 c13)
    generalize (w2.setCell ⟨w.heap.size, 0, none⟩ (.int .i64 4)) = w3 at *
    refine (stRenew_any (r := recAct s) HX3.out (HX3.out.stg.imp fun x hx => ⟨hx.mem, hx.ents, (gr_four HGR.out).wf⟩) HLM.out HLE.out (by omega) HGR.out.few).mono ?_
    intro e w4 hw
    have HF : Hid (RetMu w base SB R (L.M SB R) (act d rs (preActivate s n) (recAct s) true).1 (act d rs (preActivate s n) (recAct s) true).2 e w4) := by
      refine RetMu.bel ?_ HE3.out
      rw [HP.out]
      exact hw.mu HRUN.out HG.out (fun _ => gr_four HGR.out) (fun _ => rfl)
    obtain ⟨rfl, -⟩ := hw
    generalize wq d (recAct s) true = p at *
    go_wp2
    go_ret
    exact HF.out

end

end Go.Proofs.Ytdgpbdedaafdiaa
