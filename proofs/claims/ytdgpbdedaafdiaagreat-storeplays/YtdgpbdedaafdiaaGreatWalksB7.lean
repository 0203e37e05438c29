/-
  book: Records; the law's small, frame, all; the reference's SameRecs.
-/
import Derived.Test.YtdgpbdedaafdiaaGreatWalksB6
import Derived.Test.YtdgpbdedaafdiaaGreatWalksZ1
import Derived.Test.YtdgpbdedaafdiaaGreatLaw71
namespace Go.Proofs.YtdgpbdedaafdiaaGreat
open Go.RowKit


/-- Records' answer. -/
def RetRs (w : World) (cs : List (List Nat)) (e : Ending) (w' : World) : Prop :=
  ∃ va vc xs, e = .returned (.slice va cs.length vc) ∧ xs.map Rl.r = cs.map decR ∧ Rcs w' w.heap.size va vc xs ∧ (∀ x ∈ xs, w.heap.size ≤ x.lo) ∧ Below w.heap.size w w'

/-- Records in new memory, each in blocks of its own. -/
structure Rcn (w : World) (xs : List Rl) : Prop where
  each : ∀ x ∈ xs, RecO w x.lo x.hi x.ma x.mc x.ea x.ec x.r
  apart : xs.Pairwise fun x y => x.hi ≤ y.lo

theorem Rcn.chg {w w' : World} {xs : List Rl} {gs : List Nat} (h : Rcn w xs) (hb : Chg gs w w') (hg : ∀ x ∈ xs, ∀ g ∈ gs, g < x.lo ∨ x.hi ≤ g) : Rcn w' xs := ⟨fun x hx => (h.each x hx).chg hb (hg x hx), h.apart⟩

theorem Rcn.below {w w' : World} {xs : List Rl} (h : Rcn w xs) (hb : Below w.heap.size w w') : Rcn w' xs := h.chg (gs := []) (Chg.of_below hb) (by simp)

/-- Records' answer, the records in new memory. -/
def RetRsO (w : World) (cs : List (List Nat)) (e : Ending) (w' : World) : Prop :=
  ∃ va vc xs, e = .returned (.slice va cs.length vc) ∧ xs.map Rl.r = cs.map decR ∧ Rcs w' w.heap.size va vc xs ∧ (∀ x ∈ xs, w.heap.size ≤ x.lo) ∧ Rcn w' xs ∧ Below w.heap.size w w'

theorem map_snoc_take {α β : Type} (f : α → β) (cs : List α) (d : α) (k : Nat) (h : k < cs.length) : (cs.take (k + 1)).map f = (cs.take k).map f ++ [f (cs.getD k d)] := by
  rw [List.take_succ_eq_append_getElem h, List.map_append, List.getD_eq_getElem?_getD, List.getElem?_eq_getElem h]
  rfl

set_option maxRecDepth 100000 in
set_option maxHeartbeats 2000000 in
theorem bkRecords_own (base RB R : Nat) (a ga : Option Addr) (s : DS) (cs : List (List Nat)) (F : List Nat) (w : World) (h : Bk w base RB R a ga s cs F) (hc : cs.length ≤ 900000) (hd : ∀ c ∈ cs, decB c = true ∧ c.length ≤ 100000000) :
    Calls Tryz.prog 16 #[.pointer (some ⟨RB, 0, none⟩)] w (RetRsO w cs) := by
  have HB := Lib.hid h
  have HD := Lib.hid hd
  obtain ⟨gc, ys, hc1, hys, hr, hfar⟩ := h.rows
  have HYS := Lib.hid hys
  have HRW := Lib.hid hr
  obtain ⟨n, hn⟩ : ∃ n, ys.length = n := ⟨_, rfl⟩
  have HN := Lib.hid hn
  have HNC : Hid (cs.length = n) := by show _ = _; rw [← hys, List.length_map]; exact hn
  rw [hn] at hc1
  have hn1 : n ≤ 900000 := by rw [← HNC.out]; exact hc
  clear h hd hys hr hfar hn hc
  go_enter Tryz.func16, Tryz.ntmps16
  go_wp2
  go_loopw [3, 15] (fun v i ws => ∃ (k vc : Nat) (va : Option Addr) (xs : List Rl), k ≤ n ∧ i = .int .i64 k ∧ v = .slice va k vc ∧ Hid (xs.map Rl.r = (cs.take k).map decR) ∧ Hid (Rcs ws w.heap.size va vc xs) ∧ Hid (∀ x ∈ xs, w.heap.size ≤ x.lo) ∧ Hid (Rcn ws xs) ∧ Hid (Ext w ws)) (fun _ i _ => n - (intOf i).toNat)
  case atStart => exact ⟨0, 0, none, [], Nat.zero_le _, rfl, rfl, rfl, rcs_nil _ _, by intro x hx; simp at hx, ⟨by simp, List.Pairwise.nil⟩, Ext.refl _⟩
  case round =>
    obtain ⟨k, vc, va, xs, hk, rfl, rfl, HM, HO, HLO, HRN, HE⟩ := hrel
    by_cases hlt : k < n
    · have HL : Hid (xs.length = k) := by
        have := congrArg List.length HM.out
        rw [List.length_map, List.length_map, List.length_take, HNC.out] at this
        show _ = _
        omega
      have HN1 := Lib.hid (map_snoc_take decR cs [] k (by rw [HNC.out]; exact hlt))
      obtain ⟨g0, e0, hrow⟩ := HRW.out.row ⟨none, 0, []⟩ k (by rw [HN.out]; exact hlt)
      subst e0
      have hrow' := cell_later HE.out hrow
      have hmem : ys.getD k ⟨none, 0, []⟩ ∈ ys := getD_mem ys k _ (by rw [HN.out]; exact hlt)
      have HSY := Lib.hid ((HRW.out.seen _ hmem).below HE.out)
      have hcs : cs.getD k [] = (ys.getD k ⟨none, 0, []⟩).ps := by
        rw [← HYS.out, List.getD_eq_getElem?_getD, List.getD_eq_getElem?_getD, List.getElem?_map, List.getElem?_eq_getElem (by rw [HN.out]; exact hlt)]
        rfl
      have hdc := HD.out _ (getD_mem cs k [] (by rw [HNC.out]; exact hlt))
      rw [hcs] at HN1 hdc
      generalize ys.getD k ⟨none, 0, []⟩ = y at *
      obtain ⟨yl, yc, C⟩ := y
      obtain ⟨lc, hlc⟩ : ∃ q, C.length = q := ⟨_, rfl⟩
      have HLC := Lib.hid hlc
      have hdc2 : lc ≤ 100000000 := by rw [← hlc]; exact hdc.2
      have HDC : Hid (decB C = true) := hdc.1
      unfold Rw.val at hrow'
      dsimp only at hrow' HSY HN1
      rw [hlc] at hrow'
      clear hrow hmem hcs hdc hlc
      go_wp2_with fail
      refine (decode_own _ _ _ C _ HLC.out hdc2 HSY.out HDC.out).mono ?_
      rintro e w2 ⟨ma, mc, ea, ec, rfl, hk2, hb2⟩
      have HRB2 : Hid (Rob wr.heap.size w2.heap.size w2 fun x => RecAt x ma mc ea ec (decR C)) := fun gs x hc hg => (hk2.chg hc hg).at_
      have HRO2 := Lib.hid hk2
      have HRN2 := Lib.hid (HRN.out.below hb2)
      generalize decR C = r at *
      obtain ⟨lm, hlm⟩ : ∃ q, r.mem.length = q := ⟨_, rfl⟩
      obtain ⟨le, hle⟩ : ∃ q, r.ents.length = q := ⟨_, rfl⟩
      rw [hlm, hle]
      have HLM := Lib.hid hlm
      have HLE := Lib.hid hle
      have HWS : Hid (wr.heap.size ≤ w2.heap.size) := hb2.size
      have HE2 := Lib.hid (HE.out.trans hb2)
      have HO2 := Lib.hid (HO.out.below hb2)
      have hbl := below_one w2 (.cells #[.int .i64 r.kind, .int .i64 r.epoch, .slice ma lm mc, .int .i64 r.pos, .int .i64 r.last, .slice ea le ec] 35)
      have HE3 := Lib.hid (HE2.out.trans hbl)
      have HO3 := Lib.hid (HO2.out.below hbl)
      have HX3 : Hid (Rob wr.heap.size w2.heap.size (w2.alloc (.cells #[.int .i64 r.kind, .int .i64 r.epoch, .slice ma lm mc, .int .i64 r.pos, .int .i64 r.last, .slice ea le ec] 35)) (Rl.ok ⟨r, ma, mc, ea, ec, wr.heap.size, w2.heap.size⟩)) := HRB2.out.chg (gs := []) (Chg.of_below hbl) (by simp)
      have HS3 : Hid (w2.heap.size ≤ (w2.alloc (.cells #[.int .i64 r.kind, .int .i64 r.epoch, .slice ma lm mc, .int .i64 r.pos, .int .i64 r.last, .slice ea le ec] 35)).heap.size) := hbl.size
      have hzz := HLO.out
      have HRO3 := Lib.hid (HRO2.out.chg (gs := []) (Chg.of_below hbl) (by simp))
      have HRN3 := Lib.hid (HRN2.out.below hbl)
      have HHI : Hid (∀ x ∈ xs, x.hi ≤ wr.heap.size) := fun x hx => (HO.out.off x hx).1
      have HVO : Hid (∀ x ∈ xs, ∀ g ∈ blk va, g < x.lo ∨ x.hi ≤ g) := fun x hx => (HO.out.off x hx).2
      clear hk2 hb2 hbl HRB2 hlm hle hzz HB HSY HRO2 HRN2
      have HA4 := Lib.hid (rca_box r ma ea mc ec wr.heap.size w2.heap.size lm le (w2.heap.size + 1) HLM.out HLE.out (by simp) HX3.out)
      have HO4 := Lib.hid (HO3.out.below (below_one _ (.cells #[.int .i64 r.kind, .int .i64 r.epoch, .slice ma lm mc, .int .i64 r.pos, .int .i64 r.last, .slice ea le ec] 35)))
      have HE4 := Lib.hid (HE3.out.trans (below_one _ (.cells #[.int .i64 r.kind, .int .i64 r.epoch, .slice ma lm mc, .int .i64 r.pos, .int .i64 r.last, .slice ea le ec] 35)))
      have HVA : Hid (∀ g ∈ blk va, g < wr.heap.size) := fun g hg => (HO.out.lt hg).2
      have HRN4 : Hid (Rcn ((w2.alloc (.cells #[.int .i64 r.kind, .int .i64 r.epoch, .slice ma lm mc, .int .i64 r.pos, .int .i64 r.last, .slice ea le ec] 35)).alloc (.cells #[.int .i64 r.kind, .int .i64 r.epoch, .slice ma lm mc, .int .i64 r.pos, .int .i64 r.last, .slice ea le ec] 35)) (xs ++ [(⟨r, ma, mc, ea, ec, wr.heap.size, w2.heap.size⟩ : Rl)])) := by
        have hb4 := below_one (w2.alloc (.cells #[.int .i64 r.kind, .int .i64 r.epoch, .slice ma lm mc, .int .i64 r.pos, .int .i64 r.last, .slice ea le ec] 35)) (.cells #[.int .i64 r.kind, .int .i64 r.epoch, .slice ma lm mc, .int .i64 r.pos, .int .i64 r.last, .slice ea le ec] 35)
        refine ⟨fun x hx => ?_, ?_⟩
        · rcases List.mem_append.mp hx with hx | hx
          · exact (HRN3.out.below hb4).each x hx
          · rw [List.mem_singleton.mp hx]
            exact HRO3.out.chg (gs := []) (Chg.of_below hb4) (by simp)
        · rw [List.pairwise_append]
          exact ⟨HRN.out.apart, by simp, fun x hx y hy => by rw [List.mem_singleton.mp hy]; exact HHI.out x hx⟩
      clear HRO3 HRN3
      clear HX3 HO3 HE3 HO2 HE2
      go_wp2_with (at_builtin; refine wpList_appRec rfl (.tmp 24) (.tmp 26) rfl w.heap.size va vc k xs HL.out rfl HO4.out _ 1 1 [⟨r, ma, mc, ea, ec, wr.heap.size, w2.heap.size⟩] rfl rfl HA4.out (by omega) HE4.out.size (fun y hy => by rw [List.mem_singleton.mp hy]; exact ⟨by simp; omega, fun g hg => .inl (HVA.out g hg)⟩) ?_; intro va5 vc5 w5 ho5 chg5 hat5; have HO5 := Lib.hid ho5; have HRN5 := Lib.hid (HRN4.out.chg chg5 (fun x hx g hg => by rcases List.mem_append.mp hx with hx | hx; exact HVO.out x hx g hg; rw [List.mem_singleton.mp hx]; exact .inl (HVA.out g hg))); have HE5 : Hid (Ext w w5) := chg5.below HE4.out HE4.out.size (fun g hg => (HO.out.lt hg).1); clear ho5 chg5 hat5)
      have HM5 : Hid ((xs ++ [(⟨r, ma, mc, ea, ec, wr.heap.size, w2.heap.size⟩ : Rl)]).map Rl.r = (cs.take (k + 1)).map decR) := by
        show _ = _
        rw [HN1.out, List.map_append, HM.out]
        rfl
      have HLO5 : Hid (∀ x ∈ xs ++ [(⟨r, ma, mc, ea, ec, wr.heap.size, w2.heap.size⟩ : Rl)], w.heap.size ≤ x.lo) := by
        intro x hx
        rcases List.mem_append.mp hx with hx | hx
        · exact HLO.out x hx
        · rw [List.mem_singleton.mp hx]
          exact HE.out.size
      go_roundw
      case rel => exact ⟨k + 1, vc5, va5, _, by omega, by go_num, rfl, HM5, HO5, HLO5, HRN5, HE5⟩
      case measure => simp [intOf]; omega
    · obtain rfl : k = n := by omega
      have HF : Hid (RetRsO w cs (.returned (.slice va k vc)) wr) := by
        refine ⟨va, vc, xs, by rw [HNC.out], ?_, HO.out, HLO.out, HRN.out, HE.out⟩
        rw [HM.out, List.take_of_length_le (by rw [HNC.out]; exact Nat.le_refl _)]
      go_wp2
      go_ret
      exact HF.out

theorem bkRecords_any (base RB R : Nat) (a ga : Option Addr) (s : DS) (cs : List (List Nat)) (F : List Nat) (w : World) (h : Bk w base RB R a ga s cs F) (hc : cs.length ≤ 900000) (hd : ∀ c ∈ cs, decB c = true ∧ c.length ≤ 100000000) :
    Calls Tryz.prog 16 #[.pointer (some ⟨RB, 0, none⟩)] w (RetRs w cs) :=
  (bkRecords_own base RB R a ga s cs F w h hc hd).mono fun _ _ ⟨va, vc, xs, h1, h2, h3, h4, _, h6⟩ => ⟨va, vc, xs, h1, h2, h3, h4, h6⟩

end Go.Proofs.YtdgpbdedaafdiaaGreat
