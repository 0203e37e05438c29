/-
  The walk of the reference's Names.
-/
import Derived.Test.YtdifnipjmnbojaaKyN
import Derived.Test.YtdifnipjmnbojaaLaw103
import Derived.Test.YtdifnipjmnbojaaRaw
import Derived.Deep.DeepCutAuto
namespace Go.Proofs.Ytdifnipjmnbojaa
open Go.RowKit








theorem slice_toS (a : Option Addr) (q c l : Nat) (h : l ≤ c) (w : World) : (Instr.slice 32 (.slice a q c) none (some (.int .i64 (l : Int))) none).run Try.prog w = .ok (.slice a l c) w := by
  rw [run_slice_h w 32 a q c (by kernel_rfl) .i64 (l : Int) (by omega) (by omega)]
  have hs : (sizeOf (Try.prog.elem 32)).run Try.prog w = .ok 1 w := by kernel_rfl
  rw [hs]
  rcases a with _ | ⟨b, off, p⟩
  · simp [Result.andThen, sliced]
  · rcases p with _ | p <;> simp [Result.andThen, sliced, Addr.add]

theorem slice_toS' (a : Option Addr) (q c l : Nat) (h : l ≤ c) (w : World) : (Instr.sliceAt 32 (.slice a q c) none (some (.int .i64 (l : Int))) none).run Try.prog w = .ok (.slice a l c) w := by
  rw [run_sliceAt_slice w 32 _ _ _ _ (by kernel_rfl)]
  exact slice_toS a q c l h w

/-- Behind the first n texts. -/
def fromS (a : Option Addr) (c n : Nat) : Option Addr := if c = n then a else a.map (·.add n)

theorem slice_fromS (a : Option Addr) (l c n : Nat) (hn : n ≤ l) (w : World) : (Instr.slice 32 (.slice a l c) (some (.int .i64 (n : Int))) none none).run Try.prog w = .ok (.slice (fromS a c n) (l - n) (c - n)) w := by
  rw [run_slice_l w 32 a l c (by kernel_rfl) .i64 (n : Int) (by omega) (by omega)]
  have hs : (sizeOf (Try.prog.elem 32)).run Try.prog w = .ok 1 w := by kernel_rfl
  rw [hs]
  simp only [Result.andThen, sliced, fromS, Int.toNat_natCast, Nat.mul_one]

theorem slice_fromS' (a : Option Addr) (l c n : Nat) (hn : n ≤ l) (w : World) : (Instr.sliceAt 32 (.slice a l c) (some (.int .i64 (n : Int))) none none).run Try.prog w = .ok (.slice (fromS a c n) (l - n) (c - n)) w := by
  rw [run_sliceAt_slice w 32 _ _ _ _ (by kernel_rfl)]
  exact slice_fromS a l c n hn w

theorem less_kb (x : List UInt8) (p : Pe) : Op.bytesLess (⟨x.toArray⟩ : ByteArray).toList (strB p.key).toList = decide (x < kb p) := by
  rw [bytesLess_eq, ByteArray.toList_eq, ByteArray.toList_eq, strB_list]
  rfl

theorem same_kb (x : List UInt8) (p : Pe) : ((⟨x.toArray⟩ : ByteArray).toList == (strB p.key).toList) = decide (x = kb p) := by
  rw [Bool.eq_iff_iff, beq_iff_eq, decide_eq_true_iff, ByteArray.toList_eq, ByteArray.toList_eq, strB_list]
  rfl

/-- Texts of the call's own. -/
def OwT (w : World) (base : Nat) (x : Option Addr) (m c : Nat) (ss : List (List UInt8)) : Prop := ss.length = m ∧ w.ownsRow base 9 1 (.slice x m c) m (ss.map encStr)

theorem OwT.below {w w' : World} {base m c : Nat} {x : Option Addr} {ss : List (List UInt8)} (h : OwT w base x m c ss) (hb : Below w.heap.size w w') : OwT w' base x m c ss := ⟨h.1, (Chg.of_below (gs := []) hb).owns h.2 (by simp)⟩

theorem OwT.le {w : World} {base m c : Nat} {x : Option Addr} {ss : List (List UInt8)} (h : OwT w base x m c ss) : m ≤ c ∧ c ≤ maxLen := by
  have := strs_own h.2 h.1
  exact ⟨by have := this.le; rw [h.1] at this; exact this, this.max⟩

theorem takeF_get {α β : Type} {f : α → β} {ss : List α} {n j : Nat} {u : β} (h : ((ss.take n).map f)[j]? = some u) : (ss.map f)[j]? = some u := by
  rw [List.map_take, List.getElem?_take] at h
  split at h
  · exact h
  · cases h

theorem dropF_get {α β : Type} {f : α → β} {ss : List α} {n j : Nat} {u : β} (h : ((ss.drop n).map f)[j]? = some u) : (ss.map f)[n + j]? = some u := by
  rw [List.map_drop, List.getElem?_drop] at h
  exact h

theorem encs_one (ss : List (List UInt8)) : ∀ u ∈ ss.map encStr, u.oneCell' = true := fun u hu => by
  obtain ⟨x, _, rfl⟩ := List.mem_map.1 hu
  rfl

theorem from_cells {w : World} {x : Option Addr} {c m at_ : Nat} {ys : List Value} (h : ∀ j u, ys[j]? = some u → ∃ b off, x = some ⟨b, off, none⟩ ∧ w.cell? ⟨b, off + j, none⟩ = some u) (hl : ys.length = m) (hm : m ≤ c) : ∀ j u, ys[at_ + j]? = some u → ∃ b off, fromS x c at_ = some ⟨b, off, none⟩ ∧ w.cell? ⟨b, off + j, none⟩ = some u := fun j u hj => by
  obtain ⟨b, off, rfl, hc⟩ := h _ u hj
  have hlt : at_ + j < ys.length := by
    rcases Nat.lt_or_ge (at_ + j) ys.length with h | h
    · exact h
    · rw [List.getElem?_eq_none h] at hj; cases hj
  refine ⟨b, off + at_, ?_, by rw [Nat.add_assoc]; exact hc⟩
  unfold fromS
  rw [if_neg (by omega)]
  simp [Go.WideShapes.add_plain]




set_option maxRecDepth 100000 in
set_option maxHeartbeats 8000000 in
theorem refNames_any (a : Option Addr) (cap l : Nat) (es : List Pe) (last : Int) (w : World) (hl : es.length = l) (h : EnsAt w a cap es) (h9 : l ≤ 1000) :
    Calls Try.prog 14 #[.slice a l cap, .int .i64 last] w (RetN w (curU es last l) l) := by
  have HE := Lib.hid h
  have HL := Lib.hid hl
  clear h hl
  have HO0 : Hid (OwT (w.alloc (.cells #[] 9)) w.heap.size (some ⟨w.heap.size, 0, none⟩) 0 0 (refN es last 0)) := ⟨rfl, row_lit w w.heap.size w.heap.size 9 1 rfl (Nat.le_refl _)⟩
  have HB0 : Hid (Below w.heap.size w (w.alloc (.cells #[] 9))) := below_one _ _
  go_enter Try.func14, Try.ntmps14
  go_wp2
  go_loopw [5, 6] (fun v i ws => ∃ (k m c : Nat) (x : Option Addr), k ≤ l ∧ m ≤ k ∧ i = .int .i64 k ∧ v = .slice x m c ∧ Hid (OwT ws w.heap.size x m c (refN es last k)) ∧ Hid (Below w.heap.size w ws)) (fun _ i _ => l - (intOf i).toNat)
  case atStart => exact ⟨0, 0, 0, _, Nat.zero_le _, Nat.zero_le _, rfl, rfl, HO0, HB0⟩
  case round =>
    obtain ⟨k, m, c, x, hk, hmk, rfl, rfl, HO, HB⟩ := hrel
    by_cases hlt : k < l
    · obtain ⟨b, off, loc, cp, rfl, hc0⟩ := HE.out.el k (by rw [HL.out]; exact hlt)
      have HC := Lib.hid (hc0.c4)
      have c4 := cell_later HB.out hc0.c4
      have HY : Hid (putF es last (kb (es.getD k pe0)) → inB (refN es last k) (kb (es.getD k pe0)) m = false → refN es last (k + 1) = insA (refN es last k) (kb (es.getD k pe0)) (atU (refN es last k) (kb (es.getD k pe0)) m)) := fun h1 h2 => by have e := HO.out.1; rw [← e] at h2 ⊢; exact refN_yes ⟨h1, h2⟩
      have HN1 : Hid (¬ putF es last (kb (es.getD k pe0)) → refN es last (k + 1) = refN es last k) := fun h1 => refN_no (fun h => h1 h.1)
      have HN2 : Hid (inB (refN es last k) (kb (es.getD k pe0)) m = true → refN es last (k + 1) = refN es last k) := fun h1 => refN_no (fun h => by have e := HO.out.1; rw [e, h1] at h; cases h.2)
      have HPF : Hid (putF es last (kb (es.getD k pe0)) ↔ (ansF es (fndU es last (kb (es.getD k pe0)) l)).2 = true ∧ (ansF es (fndU es last (kb (es.getD k pe0)) l)).1.op = 1) := by show _ ↔ _; unfold putF; rw [HL.out]
      clear hc0
      generalize es.getD k pe0 = p at *
      have j1 : (k : Int) < (l : Int) := by omega
      have j0 : (0 : Int) ≤ (k : Int) := by omega
      go_wp2_with fail
      refine (refFind_any (some ⟨b, off, none⟩) cap l es (strB p.key) last wr HL.out (HE.out.below HB.out)).mono ?_
      rw [strB_list]
      rw [show p.key.map UInt8.ofNat = kb p from rfl]
      generalize ansF es (fndU es last (kb p) l) = fa at *
      obtain ⟨fp, fb⟩ := fa
      dsimp only at HPF
      dsimp only
      rintro e w2 ⟨fl, fc, rfl, hs2, hb2⟩
      have hbl2 := below_one w2 (.cells #[.int .i64 fp.seq, .int .i64 fp.client, .int .i64 fp.num, .int .i64 fp.op, .string (strB fp.key), .int .i64 fp.size, .int .u32 (fp.sum : Int), .slice fl fp.frag.length fc] 26)
      have HO2 := Lib.hid ((HO.out.below hb2).below hbl2)
      have HB2 := Lib.hid (HB.out.trans ((hb2.trans (hbl2.mono hb2.size)).mono HB.out.size))
      have HY2 : Hid (Bx (w2.alloc (.cells #[.int .i64 fp.seq, .int .i64 fp.client, .int .i64 fp.num, .int .i64 fp.op, .string (strB fp.key), .int .i64 fp.size, .int .u32 (fp.sum : Int), .slice fl fp.frag.length fc] 26)) w2.heap.size 26 #[.int .i64 fp.seq, .int .i64 fp.client, .int .i64 fp.num, .int .i64 fp.op, .string (strB fp.key), .int .i64 fp.size, .int .u32 (fp.sum : Int), .slice fl fp.frag.length fc]) := bx_new8 _ _ _
      clear hs2 hb2 hbl2 HO HB c4
      go_upto_region 6 with fail
      generalize (w2.alloc (.cells #[.int .i64 fp.seq, .int .i64 fp.client, .int .i64 fp.num, .int .i64 fp.op, .string (strB fp.key), .int .i64 fp.size, .int .u32 (fp.sum : Int), .slice fl fp.frag.length fc] 26)) = w3 at *
      have y3 := HY2.out.cell 3 (.int .i64 fp.op) rfl
      go_cut [36] (fun s wx => ∃ q : Bool, s = .bool q ∧ Hid (q = false ↔ putF es last (kb p)) ∧ wx = w3)
      case first =>
        cases fb with
        | false =>
          have HQ : Hid (¬ putF es last (kb p)) := by show ¬ _; rw [HPF.out]; rintro ⟨h, _⟩; cases h
          clear HPF
          go_wp2_with fail
          go_meet
          exact ⟨true, rfl, (Lib.hid ⟨fun h => (by cases h), fun h => absurd h HQ.out⟩), rfl⟩
        | true =>
          by_cases h1 : fp.op = 1
          · have u1 : (fp.op != 1) = false := by simp [h1]
            have HQ : Hid (putF es last (kb p)) := HPF.out.2 ⟨rfl, h1⟩
            clear h1 HPF
            go_wp2_with fail
            go_meet
            exact ⟨false, rfl, (Lib.hid ⟨fun _ => HQ.out, fun _ => rfl⟩), rfl⟩
          · have u1 : (fp.op != 1) = true := by simp [h1]
            have HQ : Hid (¬ putF es last (kb p)) := by show ¬ _; rw [HPF.out]; rintro ⟨_, h⟩; exact h1 h
            clear h1 HPF
            go_wp2_with fail
            go_meet
            exact ⟨true, rfl, (Lib.hid ⟨fun h => (by cases h), fun h => absurd h HQ.out⟩), rfl⟩
      case rest =>
      obtain ⟨q, rfl, HQ, hw⟩ := hcut
      obtain rfl := hw.symm
      clear hw HPF y3 HY2
      cases q with
      | true =>
        have HNP : Hid (refN es last (k + 1) = refN es last k) := HN1.out (fun h => by have := HQ.out.2 h; cases this)
        have HO3 : Hid (OwT w3 w.heap.size x m c (refN es last (k + 1))) := by show OwT _ _ _ _ _ _; rw [HNP.out]; exact HO2.out
        clear HN1 HN2 HY HQ
        go_wp2
        go_roundw
        case rel => exact ⟨k + 1, m, c, x, by omega, by omega, by go_num, rfl, HO3, HB2⟩
        case measure => simp [intOf]; omega
      | false =>
        have HPU : Hid (putF es last (kb p)) := HQ.out.1 rfl
        clear HN1 HQ
        have hmc := HO2.out.le
        have hmc2 : m ≤ 1000 := by omega
        go_wp2
        go_loopw [9, 10, 11] (fun av t i ws => ∃ (j at_ : Nat) (tb : Bool), j ≤ m ∧ at_ ≤ j ∧ i = .int .i64 j ∧ av = .int .i64 at_ ∧ t = .bool tb ∧ Hid (atU (refN es last k) (kb p) j = at_) ∧ Hid (inB (refN es last k) (kb p) j = tb) ∧ Hid (Below w3.heap.size w3 ws)) (fun _ _ i _ => m - (intOf i).toNat)
        case atStart => exact ⟨0, 0, false, Nat.zero_le _, Nat.le_refl _, rfl, rfl, rfl, rfl, rfl, Below.refl _ _⟩
        case round =>
          obtain ⟨j, at_, tb, hj, hat, rfl, rfl, rfl, HAT, HIN, HBR⟩ := hrel
          by_cases hjm : j < m
          · have c4 := cell_later (HB2.out.trans (HBR.out.mono HB2.out.size)) HC.out
            obtain ⟨b', off', rfl, d0⟩ := (strs_own HO2.out.2 HO2.out.1).cell j (by rw [HO2.out.1]; exact hjm)
            have e0 := cell_later HBR.out d0
            have HA1 : Hid ((refN es last k).getD j [] < kb p → atU (refN es last k) (kb p) (j + 1) = j + 1) := atU_yes
            have HA2 : Hid (¬ (refN es last k).getD j [] < kb p → atU (refN es last k) (kb p) (j + 1) = at_) := fun h => by rw [atU_no h]; exact HAT.out
            have HI1 : Hid (inB (refN es last k) (kb p) (j + 1) = (tb || decide ((refN es last k).getD j [] = kb p))) := by show (inB (refN es last k) (kb p) j || _) = _; rw [HIN.out]
            clear d0 HAT HIN
            have d5 := less_kb ((refN es last k).getD j []) p
            have d6 := same_kb ((refN es last k).getD j []) p
            have hirr : (refN es last k).getD j [] < kb p → ¬ (refN es last k).getD j [] = kb p := fun h e => by rw [e] at h; exact List.lt_irrefl _ h
            generalize (refN es last k).getD j [] = t at *
            have j2 : (j : Int) < (m : Int) := by omega
            have j3 : (0 : Int) ≤ (j : Int) := by omega
            unfold encStr at e0
            generalize (⟨t.toArray⟩ : ByteArray) = sx at *
            by_cases h5 : t < kb p
            · have e5 : Op.bytesLess sx.toList (strB p.key).toList = true := by rw [d5]; simp [h5]
              have e6 : (sx.toList == (strB p.key).toList) = false := by rw [d6]; simp [hirr h5]
              have HAT1 := Lib.hid (HA1.out h5)
              have HIN1 : Hid (inB (refN es last k) (kb p) (j + 1) = tb) := by show _ = _; rw [HI1.out, decide_eq_false (hirr h5), Bool.or_false]
              clear h5 d5 d6 hirr HA1 HA2 HI1
              cases tb with
              | true => 
                go_wp2_with fail
                go_quiet (fail)
                go_wp2_with fail
                go_quiet (fail)
                go_wp2
                go_roundw
                case rel => exact ⟨j + 1, (j + 1), true, by omega, by omega, by go_num, (by first | rfl | go_num), rfl, HAT1, HIN1, HBR.out.trans ((below_drewN _ _).mono HBR.out.size)⟩
                case measure => simp [intOf]; omega
              | false => 
                go_wp2_with fail
                go_quiet (fail)
                go_wp2_with fail
                go_quiet (fail)
                go_wp2
                go_roundw
                case rel => exact ⟨j + 1, (j + 1), false, by omega, by omega, by go_num, (by first | rfl | go_num), rfl, HAT1, HIN1, HBR.out.trans ((below_drewN _ _).mono HBR.out.size)⟩
                case measure => simp [intOf]; omega
            · have e5 : Op.bytesLess sx.toList (strB p.key).toList = false := by rw [d5]; simp [h5]
              have HAT1 := Lib.hid (HA2.out h5)
              by_cases h6 : t = kb p
              · have e6 : (sx.toList == (strB p.key).toList) = true := by rw [d6]; simp [h6]
                have HIN1 : Hid (inB (refN es last k) (kb p) (j + 1) = true) := by show _ = _; rw [HI1.out, decide_eq_true h6, Bool.or_true]
                clear h5 h6 d5 d6 hirr HA1 HA2 HI1
                cases tb with
                | true => 
                  go_wp2_with fail
                  go_quiet (fail)
                  go_wp2_with fail
                  go_quiet (fail)
                  go_wp2
                  go_roundw
                  case rel => exact ⟨j + 1, at_, true, by omega, by omega, by go_num, (by first | rfl | go_num), rfl, HAT1, HIN1, HBR.out.trans ((below_drewN _ _).mono HBR.out.size)⟩
                  case measure => simp [intOf]; omega
                | false => 
                  go_wp2_with fail
                  go_quiet (fail)
                  go_wp2_with fail
                  go_quiet (fail)
                  go_wp2
                  go_roundw
                  case rel => exact ⟨j + 1, at_, true, by omega, by omega, by go_num, (by first | rfl | go_num), rfl, HAT1, HIN1, HBR.out.trans ((below_drewN _ _).mono HBR.out.size)⟩
                  case measure => simp [intOf]; omega
              · have e6 : (sx.toList == (strB p.key).toList) = false := by rw [d6]; simp [h6]
                have HIN1 : Hid (inB (refN es last k) (kb p) (j + 1) = tb) := by show _ = _; rw [HI1.out, decide_eq_false h6, Bool.or_false]
                clear h5 h6 d5 d6 hirr HA1 HA2 HI1
                cases tb with
                | true => 
                  go_wp2_with fail
                  go_quiet (fail)
                  go_wp2_with fail
                  go_quiet (fail)
                  go_wp2
                  go_roundw
                  case rel => exact ⟨j + 1, at_, true, by omega, by omega, by go_num, (by first | rfl | go_num), rfl, HAT1, HIN1, HBR.out.trans ((below_drewN _ _).mono HBR.out.size)⟩
                  case measure => simp [intOf]; omega
                | false => 
                  go_wp2_with fail
                  go_quiet (fail)
                  go_wp2_with fail
                  go_quiet (fail)
                  go_wp2
                  go_roundw
                  case rel => exact ⟨j + 1, at_, false, by omega, by omega, by go_num, (by first | rfl | go_num), rfl, HAT1, HIN1, HBR.out.trans ((below_drewN _ _).mono HBR.out.size)⟩
                  case measure => simp [intOf]; omega
          · obtain rfl : j = m := by omega
            have HO5 := Lib.hid (HO2.out.below HBR.out)
            have HB5 := Lib.hid (HB2.out.trans (HBR.out.mono HB2.out.size))
            have HC5 := Lib.hid (cell_later HB5.out HC.out)
            have hat2 : at_ ≤ j := hat
            clear HO2 HB2 HBR HC
            cases tb with
            | true =>
              have HO6 : Hid (OwT wr w.heap.size x j c (refN es last (k + 1))) := by show OwT _ _ _ _ _ _; rw [HN2.out HIN.out]; exact HO5.out
              clear HN2 HY HIN HAT
              go_wp2
              go_roundw
              case rel => exact ⟨k + 1, j, c, x, by omega, by omega, by go_num, rfl, HO6, HB5⟩
              case measure => simp [intOf]; omega
            | false =>
              have HYY : Hid (refN es last (k + 1) = insA (refN es last k) (kb p) at_) := by show _ = _; rw [HY.out HPU.out HIN.out, HAT.out]
              clear HN2 HY HIN HAT
              generalize refN es last k = ss at *
              go_upto_region 15 with fail
              refine wp_region_S2 (Ext wr.drew) (by kernel_rfl) ?_
              have hSw := Ext.refl wr.drew
              have EW : Hid (Ext wr wr.drew) := Below.drew (Below.refl _ wr)
              have HOW := HO5.out.below EW.out
              have HOL := Lib.hid HOW.1
              have HY0 := Lib.hid (row_cells HOW.2 (by rw [List.length_map, HOW.1]; omega))
              have HCW := Lib.hid (cell_later EW.out HC5.out)
              have HSZ' : Hid (w.heap.size ≤ wr.drew.heap.size) := Nat.le_trans HB5.out.size EW.out.size
              clear HOW
              generalize wr.drew = W at *
              have HW0' : Hid (∃ L, W.heap.size = L) := ⟨_, rfl⟩
              obtain ⟨L0, hL0⟩ := HW0'.out
              have HW0 := Lib.hid hL0
              have HSZ : Hid (w.heap.size ≤ L0) := by have := HSZ'.out; show _ ≤ _; omega
              have HWB0 := EW
              have EW0 := Lib.hid (Ext.refl W)
              clear EW hL0 HW0' HSZ'
              refine wpAnyH_tkS2 (i := 1) 71 (v := ?_) rfl rfl (by kernel_rfl) (by kernel_rfl) (by kernel_rfl) (by rfl) hSw (fun wq hwq => ?_) ?_
              rotate_left
              · (have hx := True.intro; go_simp <;> with_reducible rfl)
              simp only [List.setIfInBounds_toArray, List.set_cons_zero, List.set_cons_succ]
              refine wpAnyH_tkS2 (i := 2) 72 (v := ?_) rfl rfl (by kernel_rfl) (by kernel_rfl) (by kernel_rfl) (by rfl) hSw (fun wq hwq => ?_) ?_
              rotate_left
              · (have hx := True.intro; go_simp <;> with_reducible rfl)
              simp only [List.setIfInBounds_toArray, List.set_cons_zero, List.set_cons_succ]
              refine wpAnyH_tkS2 (i := 3) 73 (v := ?_) rfl rfl (by kernel_rfl) (by kernel_rfl) (by kernel_rfl) (by rfl) hSw (fun wq hwq => ?_) ?_
              rotate_left
              · (have hx := slice_toS x j c at_ (by omega) wq; have hx' := slice_toS' x j c at_ (by omega) wq; go_simp <;> with_reducible rfl)
              simp only [List.setIfInBounds_toArray, List.set_cons_zero, List.set_cons_succ]
              refine wpAnyH_tkS2 (i := 5) 75 (v := ?_) rfl rfl (by kernel_rfl) (by kernel_rfl) (by kernel_rfl) (by rfl) hSw (fun wq hwq => ?_) ?_
              rotate_left
              · (have hx := True.intro; go_simp <;> with_reducible rfl)
              simp only [List.setIfInBounds_toArray, List.set_cons_zero, List.set_cons_succ]
              refine wpAnyH_tkS2 (i := 6) 76 (v := ?_) rfl rfl (by kernel_rfl) (by kernel_rfl) (by kernel_rfl) (by rfl) hSw (fun wq hwq => ?_) ?_
              rotate_left
              · (have hx := True.intro; go_simp <;> with_reducible rfl)
              simp only [List.setIfInBounds_toArray, List.set_cons_zero, List.set_cons_succ]
              refine wpAnyH_tkS2 (i := 7) 77 (v := ?_) rfl rfl (by kernel_rfl) (by kernel_rfl) (by kernel_rfl) (by rfl) hSw (fun wq hwq => ?_) ?_
              rotate_left
              · (have hx := True.intro; go_simp <;> with_reducible rfl)
              simp only [List.setIfInBounds_toArray, List.set_cons_zero, List.set_cons_succ]
              refine wpAnyH_tkS2 (i := 8) 78 (v := ?_) rfl rfl (by kernel_rfl) (by kernel_rfl) (by kernel_rfl) (by rfl) hSw (fun wq hwq => ?_) ?_
              rotate_left
              · (have hx := True.intro; go_simp <;> with_reducible rfl)
              simp only [List.setIfInBounds_toArray, List.set_cons_zero, List.set_cons_succ]
              refine wpAnyH_tkS2 (i := 9) 79 (v := ?_) rfl rfl (by kernel_rfl) (by kernel_rfl) (by kernel_rfl) (by rfl) hSw (fun wq hwq => ?_) ?_
              rotate_left
              · (have hx := cell_later hwq HCW.out; go_simp <;> with_reducible rfl)
              simp only [List.setIfInBounds_toArray, List.set_cons_zero, List.set_cons_succ]
              refine wpAnyH_tkS2 (i := 12) 82 (v := ?_) rfl rfl (by kernel_rfl) (by kernel_rfl) (by kernel_rfl) (by rfl) hSw (fun wq hwq => ?_) ?_
              rotate_left
              · (have hx := True.intro; go_simp <;> with_reducible rfl)
              simp only [List.setIfInBounds_toArray, List.set_cons_zero, List.set_cons_succ]
              refine wpAnyH_tkS2 (i := 13) 83 (v := ?_) rfl rfl (by kernel_rfl) (by kernel_rfl) (by kernel_rfl) (by rfl) hSw (fun wq hwq => ?_) ?_
              rotate_left
              · (have hx := True.intro; go_simp <;> with_reducible rfl)
              simp only [List.setIfInBounds_toArray, List.set_cons_zero, List.set_cons_succ]
              refine wpAnyH_tkS2 (i := 14) 84 (v := ?_) rfl rfl (by kernel_rfl) (by kernel_rfl) (by kernel_rfl) (by rfl) hSw (fun wq hwq => ?_) ?_
              rotate_left
              · (have hx := slice_fromS x j c at_ hat2 wq; have hx' := slice_fromS' x j c at_ hat2 wq; go_simp <;> with_reducible rfl)
              simp only [List.setIfInBounds_toArray, List.set_cons_zero, List.set_cons_succ]
              refine wpAnyH_twoS2 (i := 0) (j := 10) rfl rfl (by kernel_rfl) (by rfl) (by rfl) (fun K hK => ?_) (fun K hK => ?_)
              · go_simp
                rw [HW0.out]
                have HR1 := Lib.hid (row_lit W L0 L0 9 1 HW0.out (by have := HW0.out; omega))
                have hb := below_one W (.cells #[] 9)
                have EW1 := Lib.hid (Ext.trans EW0.out hb)
                refine hK.out _ _ (Ext W) (fun _ h => h) (EW1.out) ?_
                clear hK K
                clear hb
                have hSw := EW1.out
                have HLT : Hid (L0 < (W.alloc (.cells #[] 9)).heap.size) := by show _ < _; rw [← HW0.out]; simp
                generalize (W.alloc (.cells #[] 9)) = W1 at *
                refine wpAnyH_twoS2 (i := 4) (j := 10) rfl rfl (by kernel_rfl) (by rfl) (by rfl) (fun K hK => ?_) (fun K hK => ?_)
                · skip
                  refine wp_appRaw (.tmp 70) (.tmp 73) 32 9 rfl Try.underlying32 _ 1 16 infoStr rfl (by omega) (by omega) L0 (some ⟨L0, 0, none⟩) 0 0 [] rfl HR1.out x at_ c ((ss.take at_).map encStr) rfl (by rw [List.length_map, List.length_take, HOL.out]; omega) (fun i u hi => by obtain ⟨b', off, e, hc⟩ := HY0.out i u (takeF_get hi); exact ⟨b', off, e, cell_later EW1.out hc⟩) (encs_one _) (by omega) (by have := EW1.out.size; have := HW0.out; omega) ?_
                  intro va2 vc2 w2 ho hg
                  rw [List.nil_append] at ho
                  rw [Nat.zero_add] at ho ⊢
                  have HO2 := Lib.hid ho
                  have HG2 := Lib.hid hg
                  have EW2 : Hid (Ext W w2) := EW1.out.grown hg EW1.out.size (fun i hi => by have h1 := (row_lt HR1.out i hi).1; have h2 := HW0.out; omega)
                  clear ho hg
                  go_simp
                  refine hK.out _ _ (Ext W) (fun _ h => h) (EW2.out) ?_
                  clear hK K
                  have hSw := EW2.out
                  refine wpAnyH_oneS2 (i := 10) rfl (by kernel_rfl) (by rfl) (fun K hK => ?_)
                  go_simp
                  have HLI := Lib.hid (litS w2 p w2.heap.size rfl)
                  have HO3 := Lib.hid ((Chg.of_below (gs := []) (below_one w2 (.cells #[.string (strB p.key)] 9))).owns HO2.out (by simp))
                  have hb := below_one w2 (.cells #[.string (strB p.key)] 9)
                  have EW3 := Lib.hid (Ext.trans EW2.out hb)
                  refine hK.out _ _ (Ext W) (fun _ h => h) (EW3.out) ?_
                  clear hK K
                  clear hb
                  have hSw := EW3.out
                  refine wpAnyH_oneS2 (i := 11) rfl (by kernel_rfl) (by rfl) (fun K hK => ?_)
                  refine wp_appRaw (.tmp 74) (.tmp 80) 32 9 rfl Try.underlying32 _ 1 16 infoStr rfl (by omega) (by omega) L0 va2 vc2 at_ ((ss.take at_).map encStr) rfl HO3.out (some ⟨w2.heap.size, 0, none⟩) 1 1 [encStr (kb p)] rfl rfl (fun i u hi => by cases i with | zero => simp at hi; subst hi; exact ⟨_, 0, rfl, HLI.out⟩ | succ i => simp at hi) (by intro u hu; rw [List.mem_singleton.mp hu]; rfl) (by omega) (by have := EW3.out.size; have := HW0.out; omega) ?_
                  intro va4 vc4 w4 ho hg
                  have HO4 := Lib.hid ho
                  have EW4 : Hid (Ext W w4) := EW3.out.grown hg EW3.out.size (fun i hi => by have h1 := (row_lt HO3.out i hi).1; have h2 := HW0.out; omega)
                  clear ho hg
                  go_simp
                  refine hK.out _ _ (Ext W) (fun _ h => h) (EW4.out) ?_
                  clear hK K
                  have hSw := EW4.out
                  refine wpAnyH_oneS2 (i := 15) rfl (by kernel_rfl) (by rfl) (fun K hK => ?_)
                  refine wp_appRaw (.tmp 81) (.tmp 84) 32 9 rfl Try.underlying32 _ 1 16 infoStr rfl (by omega) (by omega) L0 va4 vc4 (at_ + 1) ((ss.take at_).map encStr ++ [encStr (kb p)]) rfl HO4.out (fromS x c at_) (j - at_) (c - at_) ((ss.drop at_).map encStr) rfl (by rw [List.length_map, List.length_drop, HOL.out]; omega) (fun i u hi => by obtain ⟨b', off, e, hc⟩ := from_cells HY0.out (by rw [List.length_map, HOL.out]) hmc.1 i u (dropF_get hi); exact ⟨b', off, e, cell_later EW4.out hc⟩) (encs_one _) (by omega) (by have := EW4.out.size; have := HW0.out; omega) ?_
                  intro va5 vc5 w5 ho hg
                  have hmm : at_ + 1 + (j - at_) = j + 1 := by omega
                  rw [hmm] at ho ⊢
                  have EW5 : Hid (Ext W w5) := EW4.out.grown hg EW4.out.size (fun i hi => by have h1 := (row_lt HO4.out i hi).1; have h2 := HW0.out; omega)
                  have HQ5 : Hid (OwT w5 w.heap.size va5 (j + 1) vc5 (refN es last (k + 1))) := by
                    rw [HYY.out]
                    refine ⟨by rw [insA_length _ _ _ (by rw [HOL.out]; omega), HOL.out], ?_⟩
                    unfold insA
                    rw [List.map_append, List.map_append]
                    exact owns_base ho HSZ.out
                  clear ho hg
                  go_simp
                  refine hK.out _ _ (Ext W) (fun _ h => h) (EW5.out) ?_
                  clear hK K
                  have hSw := EW5.out
                  refine wpAnyH_tkS2 (i := 16) 5 (v := ?_) rfl rfl (by kernel_rfl) (by kernel_rfl) (by kernel_rfl) (by rfl) hSw (fun wq hwq => ?_) ?_
                  rotate_left
                  · (have hx := True.intro; go_simp <;> with_reducible rfl)
                  simp only [List.setIfInBounds_toArray, List.set_cons_zero, List.set_cons_succ]
                  refine wpAnyH_done (by kernel_rfl) ?_ _
                  refine NoPanic.normal ?_
                  have EXF := Lib.hid (HB5.out.trans ((Ext.trans HWB0.out EW5.out).mono HB5.out.size))
                  go_wp2
                  go_roundw
                  case rel => exact ⟨k + 1, j + 1, vc5, va5, by omega, by omega, by go_num, rfl, HQ5, EXF⟩
                  case measure => simp [intOf]; omega
                · go_simp
                  have HLI := Lib.hid (litS W1 p W1.heap.size rfl)
                  have HR2 := Lib.hid ((Chg.of_below (gs := []) (below_one W1 (.cells #[.string (strB p.key)] 9))).owns HR1.out (by simp))
                  have hb := below_one W1 (.cells #[.string (strB p.key)] 9)
                  have EW2 := Lib.hid (Ext.trans EW1.out hb)
                  refine hK.out _ _ (Ext W) (fun _ h => h) (EW2.out) ?_
                  clear hK K
                  clear hb
                  have hSw := EW2.out
                  generalize (W1.alloc (.cells #[.string (strB p.key)] 9)) = W2 at *
                  refine wpAnyH_oneS2 (i := 4) rfl (by kernel_rfl) (by rfl) (fun K hK => ?_)
                  refine wp_appRaw (.tmp 70) (.tmp 73) 32 9 rfl Try.underlying32 _ 1 16 infoStr rfl (by omega) (by omega) L0 (some ⟨L0, 0, none⟩) 0 0 [] rfl HR2.out x at_ c ((ss.take at_).map encStr) rfl (by rw [List.length_map, List.length_take, HOL.out]; omega) (fun i u hi => by obtain ⟨b', off, e, hc⟩ := HY0.out i u (takeF_get hi); exact ⟨b', off, e, cell_later EW2.out hc⟩) (encs_one _) (by omega) (by have := EW2.out.size; have := HW0.out; omega) ?_
                  intro va3 vc3 w3 ho hg
                  rw [List.nil_append] at ho
                  rw [Nat.zero_add] at ho ⊢
                  have HO3 := Lib.hid ho
                  have HG3 := Lib.hid hg
                  have EW3 : Hid (Ext W w3) := EW2.out.grown hg EW2.out.size (fun i hi => by have h1 := (row_lt HR2.out i hi).1; have h2 := HW0.out; omega)
                  clear ho hg
                  go_simp
                  refine hK.out _ _ (Ext W) (fun _ h => h) (EW3.out) ?_
                  clear hK K
                  have hSw := EW3.out
                  have HLJ : Hid (w3.cell? ⟨W1.heap.size, 0, none⟩ = some (encStr (kb p))) := (Chg.of_grown HG3.out).cell HLI.out (by have := HLT.out; simp; omega)
                  refine wpAnyH_oneS2 (i := 11) rfl (by kernel_rfl) (by rfl) (fun K hK => ?_)
                  refine wp_appRaw (.tmp 74) (.tmp 80) 32 9 rfl Try.underlying32 _ 1 16 infoStr rfl (by omega) (by omega) L0 va3 vc3 at_ ((ss.take at_).map encStr) rfl HO3.out (some ⟨W1.heap.size, 0, none⟩) 1 1 [encStr (kb p)] rfl rfl (fun i u hi => by cases i with | zero => simp at hi; subst hi; exact ⟨_, 0, rfl, HLJ.out⟩ | succ i => simp at hi) (by intro u hu; rw [List.mem_singleton.mp hu]; rfl) (by omega) (by have := EW3.out.size; have := HW0.out; omega) ?_
                  intro va4 vc4 w4 ho hg
                  have HO4 := Lib.hid ho
                  have EW4 : Hid (Ext W w4) := EW3.out.grown hg EW3.out.size (fun i hi => by have h1 := (row_lt HO3.out i hi).1; have h2 := HW0.out; omega)
                  clear ho hg
                  go_simp
                  refine hK.out _ _ (Ext W) (fun _ h => h) (EW4.out) ?_
                  clear hK K
                  have hSw := EW4.out
                  refine wpAnyH_oneS2 (i := 15) rfl (by kernel_rfl) (by rfl) (fun K hK => ?_)
                  refine wp_appRaw (.tmp 81) (.tmp 84) 32 9 rfl Try.underlying32 _ 1 16 infoStr rfl (by omega) (by omega) L0 va4 vc4 (at_ + 1) ((ss.take at_).map encStr ++ [encStr (kb p)]) rfl HO4.out (fromS x c at_) (j - at_) (c - at_) ((ss.drop at_).map encStr) rfl (by rw [List.length_map, List.length_drop, HOL.out]; omega) (fun i u hi => by obtain ⟨b', off, e, hc⟩ := from_cells HY0.out (by rw [List.length_map, HOL.out]) hmc.1 i u (dropF_get hi); exact ⟨b', off, e, cell_later EW4.out hc⟩) (encs_one _) (by omega) (by have := EW4.out.size; have := HW0.out; omega) ?_
                  intro va5 vc5 w5 ho hg
                  have hmm : at_ + 1 + (j - at_) = j + 1 := by omega
                  rw [hmm] at ho ⊢
                  have EW5 : Hid (Ext W w5) := EW4.out.grown hg EW4.out.size (fun i hi => by have h1 := (row_lt HO4.out i hi).1; have h2 := HW0.out; omega)
                  have HQ5 : Hid (OwT w5 w.heap.size va5 (j + 1) vc5 (refN es last (k + 1))) := by
                    rw [HYY.out]
                    refine ⟨by rw [insA_length _ _ _ (by rw [HOL.out]; omega), HOL.out], ?_⟩
                    unfold insA
                    rw [List.map_append, List.map_append]
                    exact owns_base ho HSZ.out
                  clear ho hg
                  go_simp
                  refine hK.out _ _ (Ext W) (fun _ h => h) (EW5.out) ?_
                  clear hK K
                  have hSw := EW5.out
                  refine wpAnyH_tkS2 (i := 16) 5 (v := ?_) rfl rfl (by kernel_rfl) (by kernel_rfl) (by kernel_rfl) (by rfl) hSw (fun wq hwq => ?_) ?_
                  rotate_left
                  · (have hx := True.intro; go_simp <;> with_reducible rfl)
                  simp only [List.setIfInBounds_toArray, List.set_cons_zero, List.set_cons_succ]
                  refine wpAnyH_done (by kernel_rfl) ?_ _
                  refine NoPanic.normal ?_
                  have EXF := Lib.hid (HB5.out.trans ((Ext.trans HWB0.out EW5.out).mono HB5.out.size))
                  go_wp2
                  go_roundw
                  case rel => exact ⟨k + 1, j + 1, vc5, va5, by omega, by omega, by go_num, rfl, HQ5, EXF⟩
                  case measure => simp [intOf]; omega
              · go_simp
                rw [HW0.out]
                have HLI := Lib.hid (litS W p L0 HW0.out)
                have hb := below_one W (.cells #[.string (strB p.key)] 9)
                have EW1 := Lib.hid (Ext.trans EW0.out hb)
                refine hK.out _ _ (Ext W) (fun _ h => h) (EW1.out) ?_
                clear hK K
                clear hb
                have hSw := EW1.out
                have HLT : Hid (L0 < (W.alloc (.cells #[.string (strB p.key)] 9)).heap.size) := by show _ < _; rw [← HW0.out]; simp
                generalize (W.alloc (.cells #[.string (strB p.key)] 9)) = W1 at *
                refine wpAnyH_oneS2 (i := 0) rfl (by kernel_rfl) (by rfl) (fun K hK => ?_)
                go_simp
                have HR2 := Lib.hid (row_lit W1 L0 W1.heap.size 9 1 rfl (by have := HLT.out; omega))
                have HLK : Hid ((W1.alloc (.cells #[] 9)).cell? ⟨L0, 0, none⟩ = some (encStr (kb p))) := cell_later (below_one W1 _) HLI.out
                have hb := below_one W1 (.cells #[] 9)
                have EW2 := Lib.hid (Ext.trans EW1.out hb)
                refine hK.out _ _ (Ext W) (fun _ h => h) (EW2.out) ?_
                clear hK K
                clear hb
                have hSw := EW2.out
                generalize (W1.alloc (.cells #[] 9)) = W2 at *
                refine wpAnyH_oneS2 (i := 4) rfl (by kernel_rfl) (by rfl) (fun K hK => ?_)
                refine wp_appRaw (.tmp 70) (.tmp 73) 32 9 rfl Try.underlying32 _ 1 16 infoStr rfl (by omega) (by omega) L0 (some ⟨W1.heap.size, 0, none⟩) 0 0 [] rfl HR2.out x at_ c ((ss.take at_).map encStr) rfl (by rw [List.length_map, List.length_take, HOL.out]; omega) (fun i u hi => by obtain ⟨b', off, e, hc⟩ := HY0.out i u (takeF_get hi); exact ⟨b', off, e, cell_later EW2.out hc⟩) (encs_one _) (by omega) (by have := EW2.out.size; have := HW0.out; omega) ?_
                intro va3 vc3 w3 ho hg
                rw [List.nil_append] at ho
                rw [Nat.zero_add] at ho ⊢
                have HO3 := Lib.hid ho
                have HG3 := Lib.hid hg
                have EW3 : Hid (Ext W w3) := EW2.out.grown hg EW2.out.size (fun i hi => by have h1 := (row_lt HR2.out i hi).1; have h2 := HW0.out; omega)
                clear ho hg
                go_simp
                refine hK.out _ _ (Ext W) (fun _ h => h) (EW3.out) ?_
                clear hK K
                have hSw := EW3.out
                have HLJ : Hid (w3.cell? ⟨L0, 0, none⟩ = some (encStr (kb p))) := (Chg.of_grown HG3.out).cell HLK.out (by have := HLT.out; simp; omega)
                refine wpAnyH_oneS2 (i := 11) rfl (by kernel_rfl) (by rfl) (fun K hK => ?_)
                refine wp_appRaw (.tmp 74) (.tmp 80) 32 9 rfl Try.underlying32 _ 1 16 infoStr rfl (by omega) (by omega) L0 va3 vc3 at_ ((ss.take at_).map encStr) rfl HO3.out (some ⟨L0, 0, none⟩) 1 1 [encStr (kb p)] rfl rfl (fun i u hi => by cases i with | zero => simp at hi; subst hi; exact ⟨_, 0, rfl, HLJ.out⟩ | succ i => simp at hi) (by intro u hu; rw [List.mem_singleton.mp hu]; rfl) (by omega) (by have := EW3.out.size; have := HW0.out; omega) ?_
                intro va4 vc4 w4 ho hg
                have HO4 := Lib.hid ho
                have EW4 : Hid (Ext W w4) := EW3.out.grown hg EW3.out.size (fun i hi => by have h1 := (row_lt HO3.out i hi).1; have h2 := HW0.out; omega)
                clear ho hg
                go_simp
                refine hK.out _ _ (Ext W) (fun _ h => h) (EW4.out) ?_
                clear hK K
                have hSw := EW4.out
                refine wpAnyH_oneS2 (i := 15) rfl (by kernel_rfl) (by rfl) (fun K hK => ?_)
                refine wp_appRaw (.tmp 81) (.tmp 84) 32 9 rfl Try.underlying32 _ 1 16 infoStr rfl (by omega) (by omega) L0 va4 vc4 (at_ + 1) ((ss.take at_).map encStr ++ [encStr (kb p)]) rfl HO4.out (fromS x c at_) (j - at_) (c - at_) ((ss.drop at_).map encStr) rfl (by rw [List.length_map, List.length_drop, HOL.out]; omega) (fun i u hi => by obtain ⟨b', off, e, hc⟩ := from_cells HY0.out (by rw [List.length_map, HOL.out]) hmc.1 i u (dropF_get hi); exact ⟨b', off, e, cell_later EW4.out hc⟩) (encs_one _) (by omega) (by have := EW4.out.size; have := HW0.out; omega) ?_
                intro va5 vc5 w5 ho hg
                have hmm : at_ + 1 + (j - at_) = j + 1 := by omega
                rw [hmm] at ho ⊢
                have EW5 : Hid (Ext W w5) := EW4.out.grown hg EW4.out.size (fun i hi => by have h1 := (row_lt HO4.out i hi).1; have h2 := HW0.out; omega)
                have HQ5 : Hid (OwT w5 w.heap.size va5 (j + 1) vc5 (refN es last (k + 1))) := by
                  rw [HYY.out]
                  refine ⟨by rw [insA_length _ _ _ (by rw [HOL.out]; omega), HOL.out], ?_⟩
                  unfold insA
                  rw [List.map_append, List.map_append]
                  exact owns_base ho HSZ.out
                clear ho hg
                go_simp
                refine hK.out _ _ (Ext W) (fun _ h => h) (EW5.out) ?_
                clear hK K
                have hSw := EW5.out
                refine wpAnyH_tkS2 (i := 16) 5 (v := ?_) rfl rfl (by kernel_rfl) (by kernel_rfl) (by kernel_rfl) (by rfl) hSw (fun wq hwq => ?_) ?_
                rotate_left
                · (have hx := True.intro; go_simp <;> with_reducible rfl)
                simp only [List.setIfInBounds_toArray, List.set_cons_zero, List.set_cons_succ]
                refine wpAnyH_done (by kernel_rfl) ?_ _
                refine NoPanic.normal ?_
                have EXF := Lib.hid (HB5.out.trans ((Ext.trans HWB0.out EW5.out).mono HB5.out.size))
                go_wp2
                go_roundw
                case rel => exact ⟨k + 1, j + 1, vc5, va5, by omega, by omega, by go_num, rfl, HQ5, EXF⟩
                case measure => simp [intOf]; omega
    · obtain rfl : k = l := by omega
      have HNM : Hid (NamesOf (curU es last k) (refN es last k)) := by have := refN_names es last; rw [HL.out] at this; exact this
      have HF : Hid (RetN w (curU es last k) k (.returned (.slice x m c)) wr) := ⟨x, c, refN es last k, by rw [HO.out.1], by rw [HO.out.1]; exact hmk, HNM.out, by rw [HO.out.1]; exact HO.out.2, HB.out⟩
      go_wp2
      go_ret
      exact HF.out

end Go.Proofs.Ytdifnipjmnbojaa
