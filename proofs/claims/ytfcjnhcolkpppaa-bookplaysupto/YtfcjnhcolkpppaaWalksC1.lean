/-
  The reference's SameRecs.
-/
import Derived.Test.YtfcjnhcolkpppaaWalksB9
namespace Go.Proofs.Ytfcjnhcolkpppaa
open Go.RowKit


theorem map_take_ne {α : Type} (f : α → List Nat) (xs ys : List α) (d : α) (k : Nat) (hx : k < xs.length) (hy : k < ys.length) (h : f (xs.getD k d) ≠ f (ys.getD k d)) : xs.map f ≠ ys.map f := fun e => by
  have := congrArg (fun l => l[k]?) e
  simp only [List.getElem?_map, List.getElem?_eq_getElem hx, List.getElem?_eq_getElem hy, Option.map_some, Option.some.injEq] at this
  apply h
  rw [List.getD_eq_getElem?_getD, List.getD_eq_getElem?_getD, List.getElem?_eq_getElem hx, List.getElem?_eq_getElem hy]
  exact this


theorem sameRecs_len (a a' : Option Addr) (cap cap' l l' : Nat) (w : World) (h : l ≠ l') :
    Calls Try.prog 17 #[.slice a l cap, .slice a' l' cap'] w fun e w' => e = .returned (.bool false) ∧ Below w.heap.size w w' := by
  have d1 : ((l : Int) != (l' : Int)) = true := by simp; omega
  go_enter Try.func17, Try.ntmps17
  go_wp2
  go_ret
  exact ⟨rfl, Below.refl _ _⟩

set_option maxRecDepth 100000 in
set_option maxHeartbeats 2000000 in
theorem sameRecs_any (a a' : Option Addr) (cap cap' l : Nat) (xs ys : List Rl) (w : World) (hl : xs.length = l) (h : RcA w a cap xs) (hl' : ys.length = l) (h' : RcA w a' cap' ys) (hs : ∀ x ∈ xs, Small x.r) (hs' : ∀ y ∈ ys, Small y.r) :
    Calls Try.prog 17 #[.slice a l cap, .slice a' l cap'] w fun e w' => e = .returned (.bool (decide (xs.map encX = ys.map encX))) ∧ Below w.heap.size w w' := by
  have HX := Lib.hid h
  have HY := Lib.hid h'
  have HL := Lib.hid hl
  have HL' := Lib.hid hl'
  have HS := Lib.hid hs
  have HS' := Lib.hid hs'
  have hlm : l ≤ maxLen := by have := h.le; have := h.max; omega
  unfold maxLen at hlm
  clear h h' hl hl' hs hs'
  go_enter Try.func17, Try.ntmps17
  go_wp2
  go_loopw [5] (fun i ws => ∃ k : Nat, k ≤ l ∧ i = .int .i64 k ∧ Hid ((xs.take k).map encX = (ys.take k).map encX) ∧ Hid (Ext w ws)) (fun i _ => l - (intOf i).toNat)
  case atStart => exact ⟨0, Nat.zero_le _, rfl, rfl, Ext.refl _⟩
  case round =>
    obtain ⟨k, hk, rfl, HE, HB⟩ := hrel
    by_cases hlt : k < l
    · have j0 : (0 : Int) ≤ (k : Int) := by omega
      have j1 : (k : Int) < (l : Int) := by omega
      obtain ⟨b, off, rfl, hc, hok⟩ := (HX.out.below HB.out).one k (by rw [HL.out]; exact hlt)
      obtain ⟨b', off', rfl, hc', hok'⟩ := (HY.out.below HB.out).one k (by rw [HL'.out]; exact hlt)
      have HSX := Lib.hid (HS.out _ (getD_mem xs k rl0 (by rw [HL.out]; exact hlt)))
      have HSY := Lib.hid (HS'.out _ (getD_mem ys k rl0 (by rw [HL'.out]; exact hlt)))
      have HOK : Hid (RecAt _ (xs.getD k rl0).ma (xs.getD k rl0).mc (xs.getD k rl0).ea (xs.getD k rl0).ec (xs.getD k rl0).r) := hok
      have HOK' : Hid (RecAt _ (ys.getD k rl0).ma (ys.getD k rl0).mc (ys.getD k rl0).ea (ys.getD k rl0).ec (ys.getD k rl0).r) := hok'
      have HM1 := Lib.hid (map_snoc_take encX xs rl0 k (by rw [HL.out]; exact hlt))
      have HM2 := Lib.hid (map_snoc_take encX ys rl0 k (by rw [HL'.out]; exact hlt))
      have HNE := Lib.hid (map_take_ne encX xs ys rl0 k (by rw [HL.out]; exact hlt) (by rw [HL'.out]; exact hlt))
      generalize xs.getD k rl0 = x at *
      generalize ys.getD k rl0 = y at *
      obtain ⟨r, ma, mc, ea, ec, lo, hi⟩ := x
      obtain ⟨r', ma', mc', ea', ec', lo', hi'⟩ := y
      dsimp only at HSX HSY HOK HOK' hc hc'
      have HNE2 : Hid (encR r ≠ encR r' → xs.map encX ≠ ys.map encX) := HNE.out
      have HM3 : Hid ((xs.take (k + 1)).map encX = (xs.take k).map encX ++ [encR r]) := HM1.out
      have HM4 : Hid ((ys.take (k + 1)).map encX = (ys.take k).map encX ++ [encR r']) := HM2.out
      clear HNE HM1 HM2 hok hok'
      obtain ⟨lm, hlm⟩ : ∃ q, r.mem.length = q := ⟨_, rfl⟩
      obtain ⟨le, hle⟩ : ∃ q, r.ents.length = q := ⟨_, rfl⟩
      obtain ⟨lm', hlm'⟩ : ∃ q, r'.mem.length = q := ⟨_, rfl⟩
      obtain ⟨le', hle'⟩ : ∃ q, r'.ents.length = q := ⟨_, rfl⟩
      rw [hlm, hle] at hc
      rw [hlm', hle'] at hc'
      have HLM := Lib.hid hlm
      have HLE := Lib.hid hle
      have HLM' := Lib.hid hlm'
      have HLE' := Lib.hid hle'
      have HC := Lib.hid hc
      have HC' := Lib.hid hc'
      clear hlm hle hlm' hle' hc hc'
      go_upto_region 6 with fail
      have E1 : Hid (Ext wr wr.drew) := (Below.refl _ wr).drew
      have HD := Lib.hid (HC.out.below E1.out)
      have HD' := Lib.hid (HC'.out.below E1.out)
      have HOD := Lib.hid (HOK.out.below E1.out)
      have HOD' := Lib.hid (HOK'.out.below E1.out)
      clear HC HC' HOK HOK'
      refine wp_region_ext (by kernel_rfl) ?_
      generalize wr.drew = w1 at *
      refine wpAnyH_tk (i := 0) 17 (v := ?_) rfl rfl (by kernel_rfl) (by kernel_rfl) (by kernel_rfl) (by rfl) (fun wq hwq => ?_) ?_
      rotate_left
      · (go_simp <;> with_reducible rfl)
      simp only [List.setIfInBounds_toArray, List.set_cons_zero, List.set_cons_succ]
      refine wpAnyH_tk (i := 1) 18 (v := ?_) rfl rfl (by kernel_rfl) (by kernel_rfl) (by kernel_rfl) (by rfl) (fun wq hwq => ?_) ?_
      rotate_left
      · (go_simp <;> with_reducible rfl)
      simp only [List.setIfInBounds_toArray, List.set_cons_zero, List.set_cons_succ]
      refine wpAnyH_tk (i := 2) 19 (v := ?_) rfl rfl (by kernel_rfl) (by kernel_rfl) (by kernel_rfl) (by rfl) (fun wq hwq => ?_) ?_
      rotate_left
      · (go_simp <;> with_reducible rfl)
      simp only [List.setIfInBounds_toArray, List.set_cons_zero, List.set_cons_succ]
      refine wpAnyH_tk (i := 3) 20 (v := ?_) rfl rfl (by kernel_rfl) (by kernel_rfl) (by kernel_rfl) (by rfl) (fun wq hwq => ?_) ?_
      rotate_left
      · (have hx := (HD.out).below hwq; have x0 := hx.c0; have x1 := hx.c1; have x2 := hx.c2; have x3 := hx.c3; have x4 := hx.c4; have x5 := hx.c5; go_simp <;> with_reducible rfl)
      simp only [List.setIfInBounds_toArray, List.set_cons_zero, List.set_cons_succ]
      refine wpAnyH_tk (i := 4) 21 (v := ?_) rfl rfl (by kernel_rfl) (by kernel_rfl) (by kernel_rfl) (by rfl) (fun wq hwq => ?_) ?_
      rotate_left
      · (go_simp <;> with_reducible rfl)
      simp only [List.setIfInBounds_toArray, List.set_cons_zero, List.set_cons_succ]
      refine wpAnyH_tk (i := 5) 22 (v := ?_) rfl rfl (by kernel_rfl) (by kernel_rfl) (by kernel_rfl) (by rfl) (fun wq hwq => ?_) ?_
      rotate_left
      · (go_simp <;> with_reducible rfl)
      simp only [List.setIfInBounds_toArray, List.set_cons_zero, List.set_cons_succ]
      refine wpAnyH_tk (i := 6) 23 (v := ?_) rfl rfl (by kernel_rfl) (by kernel_rfl) (by kernel_rfl) (by rfl) (fun wq hwq => ?_) ?_
      rotate_left
      · (go_simp <;> with_reducible rfl)
      simp only [List.setIfInBounds_toArray, List.set_cons_zero, List.set_cons_succ]
      refine wpAnyH_tk (i := 7) 24 (v := ?_) rfl rfl (by kernel_rfl) (by kernel_rfl) (by kernel_rfl) (by rfl) (fun wq hwq => ?_) ?_
      rotate_left
      · (have hx := (HD'.out).below hwq; have x0 := hx.c0; have x1 := hx.c1; have x2 := hx.c2; have x3 := hx.c3; have x4 := hx.c4; have x5 := hx.c5; go_simp <;> with_reducible rfl)
      simp only [List.setIfInBounds_toArray, List.set_cons_zero, List.set_cons_succ]
      refine wpAnyH_one (i := 8) rfl (by kernel_rfl) (by rfl) (fun K hK => ?_)
      go_simp
      refine (sameRec_any _ _ _ _ _ _ r _ _ _ _ _ _ r' _ HOD.out HLM.out HLE.out HSX.out HOD'.out HLM'.out HLE'.out HSY.out).mono ?_
      rintro e w2 ⟨rfl, hb2⟩
      have HB2 := Lib.hid ((HB.out.trans E1.out).trans hb2)
      refine hK.out _ _ hb2 ?_
      clear hK K
      clear hb2
      by_cases he : encR r = encR r'
      · have ht : decide (encR r = encR r') = true := by simp [he]
        rw [ht]
        refine wpAnyH_tk (i := 9) 26 (v := ?_) rfl rfl (by kernel_rfl) (by kernel_rfl) (by kernel_rfl) (by rfl) (fun wq hwq => ?_) ?_
        rotate_left
        · (go_simp <;> with_reducible rfl)
        simp only [List.setIfInBounds_toArray, List.set_cons_zero, List.set_cons_succ]
        refine wpAnyH_done (by kernel_rfl) ?_ _
        refine NoPanic.normal ?_
        have HE2 : Hid ((xs.take (k + 1)).map encX = (ys.take (k + 1)).map encX) := by show _ = _; rw [HM3.out, HM4.out, HE.out, he]
        clear he ht
        go_wp2
        go_roundw
        case rel => exact ⟨k + 1, by omega, by go_num, HE2, HB2⟩
        case measure => simp [intOf]; omega
      · have ht : decide (encR r = encR r') = false := by simp [he]
        rw [ht]
        refine wpAnyH_tk (i := 9) 26 (v := ?_) rfl rfl (by kernel_rfl) (by kernel_rfl) (by kernel_rfl) (by rfl) (fun wq hwq => ?_) ?_
        rotate_left
        · (go_simp <;> with_reducible rfl)
        simp only [List.setIfInBounds_toArray, List.set_cons_zero, List.set_cons_succ]
        refine wpAnyH_done (by kernel_rfl) ?_ _
        refine NoPanic.normal ?_
        have HF : Hid (false = decide (xs.map encX = ys.map encX)) := by show _ = _; symm; rw [decide_eq_false_iff_not]; exact HNE2.out he
        clear he ht
        go_wp2
        go_ret
        exact ⟨ret_boolean HF.out, HB2.out⟩
    · obtain rfl : k = l := by omega
      have HF : Hid (true = decide (xs.map encX = ys.map encX)) := by
        have h1 := HE.out
        rw [List.take_of_length_le (by rw [HL.out]; exact Nat.le_refl _), List.take_of_length_le (by rw [HL'.out]; exact Nat.le_refl _)] at h1
        show _ = _
        symm
        rw [decide_eq_true_iff]
        exact h1
      go_wp2
      go_ret
      exact ⟨ret_boolean HF.out, HB.out⟩

end Go.Proofs.Ytfcjnhcolkpppaa
