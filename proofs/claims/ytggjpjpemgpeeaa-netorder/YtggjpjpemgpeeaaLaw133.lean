/-
  The walk of the law NetOrder.
-/
import Derived.Test.YtggjpjpemgpeeaaLs13
import Derived.Test.YtggjpjpemgpeeaaArg13
namespace Go.Proofs.Ytggjpjpemgpeeaa
open Go.RowKit




theorem drop_getD (ss : List Rm) (k : Nat) (hk : k < ss.length) : ((ss.drop k).map Rm.m).getD 0 pm0 = (ss.getD k rm0).m := by
  rw [List.drop_eq_getElem_cons hk, List.getD_eq_getElem?_getD, List.getD_eq_getElem?_getD, List.getElem?_eq_getElem hk]
  rfl

theorem drop_erase (ss : List Rm) (k : Nat) (hk : k < ss.length) : ((ss.drop k).map Rm.m).eraseIdx 0 = (ss.drop (k + 1)).map Rm.m := by
  rw [List.drop_eq_getElem_cons hk]
  rfl

theorem posI_zero (n : Nat) : posI 0 n = 0 := by unfold posI; simp

set_option maxRecDepth 100000 in
set_option maxHeartbeats 8000000 in
theorem netOrder_walk (a : Option Addr) (len cap : Nat) (rs : List Rm) (w : World) (hw : rs.length = len ∧ MsgsAt w a cap rs) : Calls Try.prog 10 #[.slice a len cap] w fun e w' => e = .returned (.bool true) ∧ Below w.heap.size w w' := by
  have HL := Lib.hid hw.1
  have HS := Lib.hid hw.2
  have hlm : len ≤ cap ∧ cap ≤ 9223372036854775807 := by have h1 := hw.2.le; have h2 := hw.2.max; unfold maxLen at h2; omega
  clear hw
  go_enter Try.func10, Try.ntmps10
  go_wp2_with fail
  refine (ntNew_any _).mono ?_
  rintro e w1 ⟨R, N, rfl, hn, hb⟩
  have h1 : NS w w1 R N [] [] := ⟨hb, hn⟩
  have H1 := Lib.hid (h1.below (below_one w1 (.cells #[] 35)))
  have HT1 := Lib.hid (LsN.lit h1 w1.heap.size rfl)
  clear hn hb h1
  go_wp2_with fail
  generalize w1.heap.size = B1 at *
  generalize (w1.alloc (.cells #[] 35)) = w2 at *
  go_loopw [4, 5] (fun v i ws => ∃ (k : Nat) (va : Option Addr) (c n : Nat) (ss : List Rm) (N : List Nat), k ≤ len ∧ n ≤ k ∧ k ≤ 30 ∧ v = .slice va n c ∧ i = .int .i64 k ∧ Hid (ss.length = n) ∧ Hid (LsN w ws (.slice va n c) ss N) ∧ Hid (NS w ws R N (ss.map Rm.m) [])) (fun _ i _ => len - (intOf i).toNat)
  case atStart => exact ⟨0, _, 0, 0, [], N, Nat.zero_le _, Nat.zero_le _, Nat.zero_le _, rfl, rfl, rfl, HT1, H1⟩
  case round =>
  obtain ⟨k, va, c, n, ss, N2, hk, hnk, h30, rfl, rfl, HN, HT, HA⟩ := hrel
  clear H1 HT1
  go_upto_region 4 with fail
  go_cut [20] (fun s wx => s = .bool (decide (k < len ∧ k < 30)) ∧ wx = wr)
  case first =>
    by_cases q1 : k < len
    · have u1 : decide (k < len) = true := by simpa using q1
      by_cases q2 : k < 30
      · have u2 : decide (k < 30) = true := by simpa using q2
        have HU : Hid (decide (k < len ∧ k < 30) = true) := decide_eq_true ⟨q1, q2⟩
        go_wp2_with fail
        go_meet
        exact ⟨by first | (rw [HU.out]; done) | (rw [HU.out]; simp; omega), rfl⟩
      · have u2 : decide (k < 30) = false := by simpa using q2
        have HU : Hid (decide (k < len ∧ k < 30) = false) := decide_eq_false (fun h => q2 h.2)
        go_wp2_with fail
        go_meet
        exact ⟨by first | (rw [HU.out]; done) | (rw [HU.out]; simp; omega), rfl⟩
    · have u1 : decide (k < len) = false := by simpa using q1
      have HU : Hid (decide (k < len ∧ k < 30) = false) := decide_eq_false (fun h => q1 h.1)
      go_wp2_with fail
      go_meet
      exact ⟨by first | (rw [HU.out]; done) | (rw [HU.out]; simp; omega), rfl⟩
  case rest =>
  obtain ⟨rfl, hwx⟩ := hcut
  obtain rfl := hwx.symm
  clear hwx
  by_cases hgo : k < len ∧ k < 30
  · have u1 : decide (k < len ∧ k < 30) = true := decide_eq_true hgo
    rw [u1]
    clear u1
    obtain ⟨b, off, rfl, _⟩ := HS.out.cell k (by rw [HL.out]; exact hgo.1)
    have hkl := hgo.1
    have hk30 := hgo.2
    have HC := Lib.hid ((HS.out.box k (by rw [HL.out]; exact hgo.1)))
    have HM := Lib.hid (HS.out.get k (by rw [HL.out]; exact hgo.1))
    obtain ⟨r, hr⟩ : ∃ r, rs.getD k rm0 = r := ⟨_, rfl⟩
    rw [hr] at HC HM
    clear hr hgo
    have HC1 := Lib.hid (HC.out.below HA.out.bel)
    go_wp2_with (first | refine wpList_ldMo _ _ _ _ rfl rfl rfl rfl HC1.out ?_ | (refine wpList_ung (by rfl) ?_; refine wpList_ldMo _ _ _ _ rfl rfl rfl rfl HC1.out ?_))
    refine (light13_any r _).mono ?_
    rintro e w3 ⟨bb, rfl, hb⟩
    have HA3 := Lib.hid (HA.out.below hb)
    have HT3 := Lib.hid (HT.out.below hb)
    have HC3 := Lib.hid (HC1.out.below hb)
    clear hb HA HT HC1
    cases bb
    · go_wp2
      go_round
      case rel => exact ⟨k + 1, va, c, n, ss, N2, by omega, by omega, by omega, rfl, by go_num, HN, HT3, HA3⟩
      case measure => simp [intOf]; omega
    · go_wp2_with (first | refine wpList_ldMo _ _ _ _ rfl rfl rfl rfl HC3.out ?_ | (refine wpList_ung (by rfl) ?_; refine wpList_ldMo _ _ _ _ rfl rfl rfl rfl HC3.out ?_))
      cases hs : sndMg r.m
      · refine (send_no R r _ (HM.out.below HA3.out.bel) hs).mono ?_
        rintro e w4 ⟨rfl, hb⟩
        have HA4 := Lib.hid (HA3.out.below hb)
        have HT4 := Lib.hid (HT3.out.below hb)
        clear hb HA3 HT3 HC3
        go_wp2
        go_round
        case rel => exact ⟨k + 1, va, c, n, ss, N2, by omega, by omega, by omega, rfl, by go_num, HN, HT4, HA4⟩
        case measure => simp [intOf]; omega
      · refine (send_yes HA3.out.nt r (HM.out.below HA3.out.bel) hs).mono ?_
        intro e w4 hr
        obtain ⟨rfl, N4, h4, hm⟩ := HA3.out.send hr (by rw [List.length_map, HN.out]; omega)
        have HA4 := Lib.hid h4
        have HT4 := Lib.hid (HT3.out.mv hm)
        have HC4 := Lib.hid (HC.out.below HA4.out.bel)
        clear hr h4 hm HA3 HT3 HC3
        have hb5 := below_one w4 (.cells #[.int .i64 r.m.kind, .int .i64 r.m.frm, .int .i64 r.m.to, .int .i64 r.m.epoch, .int .i64 r.m.ent.seq, .int .i64 r.m.ent.client, .int .i64 r.m.ent.num, .int .i64 r.m.ent.op, .string (strB r.m.ent.key), .int .i64 r.m.ent.size, .int .u32 (r.m.ent.sum : Int), .slice r.loc r.el r.c, .int .i64 r.m.e, .slice r.fa r.fl r.fc, .slice r.ka r.kl r.kc, .int .i64 r.m.cep, .slice r.ma r.ml r.mc, .slice r.sa r.sl r.sc, .slice r.na r.nl r.nc] 35)
        have HA5 := Lib.hid (HA4.out.below hb5)
        have HT5 := Lib.hid (HT4.out.below hb5)
        have HX5 : Hid (Box (w4.alloc (.cells #[.int .i64 r.m.kind, .int .i64 r.m.frm, .int .i64 r.m.to, .int .i64 r.m.epoch, .int .i64 r.m.ent.seq, .int .i64 r.m.ent.client, .int .i64 r.m.ent.num, .int .i64 r.m.ent.op, .string (strB r.m.ent.key), .int .i64 r.m.ent.size, .int .u32 (r.m.ent.sum : Int), .slice r.loc r.el r.c, .int .i64 r.m.e, .slice r.fa r.fl r.fc, .slice r.ka r.kl r.kc, .int .i64 r.m.cep, .slice r.ma r.ml r.mc, .slice r.sa r.sl r.sc, .slice r.na r.nl r.nc] 35)) w4.heap.size r.cells) := box_new w4 r.cells 35 _ rfl
        clear hb5
        have hn30 : n ≤ 30 := by omega
        go_wp2_with (first | refine wpList_ldMo _ _ _ #[.int .i64 r.m.kind, .int .i64 r.m.frm, .int .i64 r.m.to, .int .i64 r.m.epoch, .int .i64 r.m.ent.seq, .int .i64 r.m.ent.client, .int .i64 r.m.ent.num, .int .i64 r.m.ent.op, .string (strB r.m.ent.key), .int .i64 r.m.ent.size, .int .u32 (r.m.ent.sum : Int), .slice r.loc r.el r.c, .int .i64 r.m.e, .slice r.fa r.fl r.fc, .slice r.ka r.kl r.kc, .int .i64 r.m.cep, .slice r.ma r.ml r.mc, .slice r.sa r.sl r.sc, .slice r.na r.nl r.nc] rfl rfl rfl rfl HC4.out ?_ | (refine wpList_pushM rfl _ _ rfl va n c rfl HA5.out HT5.out HN.out r HM.out w4.heap.size 1 rfl HX5.out (by omega) ?_; intro g6 c6 w6 h6 t6 _ _; have HA6 := Lib.hid h6; have HT6 := Lib.hid t6; clear h6 t6 HA5 HT5 HX5))
        go_round
        case rel => exact ⟨k + 1, _, c6, n + 1, ss ++ [r], N4, by omega, by omega, by omega, rfl, by go_num, by show _ = _; rw [List.length_append, HN.out]; rfl, HT6, by rw [List.map_append]; exact HA6⟩
        case measure => simp [intOf]; omega
  · have u1 : decide (k < len ∧ k < 30) = false := decide_eq_false hgo
    rw [u1]
    have hn30 : n ≤ 30 := by omega
    have HG : Hid (∀ r ∈ ss, sndMg r.m = true) := fun r hr => (HA.out.nt.good r.m (List.mem_map_of_mem hr)).2
    have HA0 : Hid (NS w wr R N2 ((ss.drop 0).map Rm.m) []) := HA.out
    clear u1 hgo hk hnk h30 HA HL
    go_wp2
    go_loopw [6] (fun i ws => ∃ (k : Nat) (N : List Nat), k ≤ n ∧ i = .int .i64 k ∧ Hid (LsN w ws (.slice va n c) ss N) ∧ Hid (NS w ws R N ((ss.drop k).map Rm.m) [])) (fun i _ => n - (intOf i).toNat)
    case atStart => exact ⟨0, N2, Nat.zero_le _, rfl, HT, HA0⟩
    case round =>
    clear HT HA0
    obtain ⟨k, N3, hk, rfl, HT, HA⟩ := hrel
    by_cases hlt : k < n
    · have hkl : k < ss.length := by rw [HN.out]; exact hlt
      obtain ⟨q, hq⟩ : ∃ q : Nat, q + k + 1 = n := ⟨n - k - 1, by omega⟩
      have hw1 : IntKind.i64.wrap ((n : Int) - 1) = (n : Int) - 1 := IntWalk.i64_in _ (by omega)
      have hw2 : IntKind.i64.wrap ((n : Int) - 1 - (k : Int)) = (q : Int) := by rw [IntWalk.i64_in _ (by omega)]; omega
      have hqe : ((q : Int) != IntKind.i64.wrap (IntKind.i64.wrap ((n : Int) - 1) - (k : Int))) = false := by rw [hw1, hw2]; simp
      have HQ : Hid (((ss.drop (k + 1)).map Rm.m).length = q) := by show _ = _; rw [List.length_map, List.length_drop, HN.out]; omega
      go_wp2_with fail
      refine (dlv_any HA.out.nt (q + 1) (by rw [List.length_map, List.length_drop, HN.out]; omega) (by omega) 0 0 (posI_zero _) (by simp)).mono ?_
      rw [drop_getD ss k hkl, drop_erase ss k hkl]
      rintro e w3 ⟨r, N4, hrm, rfl, hkp, hN, hM⟩
      have HRM := Lib.hid hrm
      have HA3 := Lib.hid (HA.out.mv hN hM)
      have HT3 := Lib.hid (HT.out.mv hM)
      have HR3 := Lib.hid hkp.now
      clear hrm hkp hN hM HA HT
      have HSM := Lib.hid (sndMg_is (HG.out _ (getD_mem ss k rm0 hkl)))
      go_wp2_with (refine wpList_st 35 19 (w3.heap.size) 0 35 r.cells #[.int .i64 0, .int .i64 0, .int .i64 0, .int .i64 0, .int .i64 0, .int .i64 0, .int .i64 0, .int .i64 0, .string ⟨#[]⟩, .int .i64 0, .int .u32 0, .slice none 0 0, .int .i64 0, .slice none 0 0, .slice none 0 0, .int .i64 0, .slice none 0 0, .slice none 0 0, .slice none 0 0] r.cells _ _ rfl rfl rfl rfl rfl (by kernel_rfl) rfl (bx_new w3 #[.int .i64 0, .int .i64 0, .int .i64 0, .int .i64 0, .int .i64 0, .int .i64 0, .int .i64 0, .int .i64 0, .string ⟨#[]⟩, .int .i64 0, .int .u32 0, .slice none 0 0, .int .i64 0, .slice none 0 0, .slice none 0 0, .int .i64 0, .slice none 0 0, .slice none 0 0, .slice none 0 0] 35) (by simp) (cells_ones r) rfl ?_; intro w4 hx4 hc4; have hb4 : Below w3.heap.size w3 w4 := hc4.below (below_one w3 _) (by simp) (by simp); have HA4 := Lib.hid (HA3.out.below hb4); have HT4 := Lib.hid (HT3.out.below hb4); have HR4 := Lib.hid (HR3.out.below hb4); have HX4 := Lib.hid hx4.box; clear hx4 hc4 hb4 HA3 HT3 HR3)
      have hms := HT4.out.ls.msgs HA4.out.bel
      have HMS := Lib.hid hms.2
      obtain ⟨b, off, rfl, _⟩ := hms.2.cell k hkl
      have HB4 := Lib.hid (HMS.out.box k hkl)
      have HM4 := Lib.hid (HMS.out.get k hkl)
      have hnc : n ≤ c ∧ c ≤ 9223372036854775807 := by have h1 := HMS.out.le; have h2 := HMS.out.max; unfold maxLen at h2; have h3 := HN.out; omega
      clear hms HMS
      obtain ⟨r2, hr2⟩ : ∃ r2, ss.getD k rm0 = r2 := ⟨_, rfl⟩
      rw [hr2] at HB4 HM4 HRM HSM
      clear hr2
      obtain ⟨B4, hB4⟩ : ∃ B4, w3.heap.size = B4 := ⟨_, rfl⟩
      rw [hB4] at HX4 ⊢
      clear hB4
      refine wp_region_ext (by kernel_rfl) ?_
      have hbd := Below.drew (Below.refl w4.heap.size w4)
      have HA5 := Lib.hid (HA4.out.below hbd)
      have HT5 := Lib.hid (HT4.out.below hbd)
      have HX5 := Lib.hid (HX4.out.below hbd)
      have HR5 := Lib.hid (HR4.out.below hbd)
      have HB5 := Lib.hid (HB4.out.below hbd)
      have HM5 := Lib.hid (HM4.out.below hbd)
      clear hbd HA4 HT4 HX4 HR4 HB4 HM4
      generalize w4.drew = w5 at *
      refine wpAnyH_tk (i := 0) 55 (v := ?_) rfl rfl (by kernel_rfl) (by kernel_rfl) (by kernel_rfl) (by rfl) (fun wq hwq => ?_) ?_
      rotate_left
      · (go_simp <;> with_reducible rfl)
      simp only [List.setIfInBounds_toArray, List.set_cons_zero, List.set_cons_succ]
      refine wpAnyH_tk (i := 1) 56 (v := ?_) rfl rfl (by kernel_rfl) (by kernel_rfl) (by kernel_rfl) (by rfl) (fun wq hwq => ?_) ?_
      rotate_left
      · (go_simp <;> with_reducible rfl)
      simp only [List.setIfInBounds_toArray, List.set_cons_zero, List.set_cons_succ]
      refine wpAnyH_tk (i := 2) 57 (v := ?_) rfl rfl (by kernel_rfl) (by kernel_rfl) (by kernel_rfl) (by rfl) (fun wq hwq => ?_) ?_
      rotate_left
      · (go_simp <;> with_reducible rfl)
      simp only [List.setIfInBounds_toArray, List.set_cons_zero, List.set_cons_succ]
      refine wpAnyH_tk (i := 3) 58 (v := .agg r.cells) rfl rfl (by kernel_rfl) (by kernel_rfl) (by kernel_rfl) (by rfl) (fun wq hwq => exec_ldM _ _ _ rfl rfl rfl ((HX5.out).below hwq)) ?_
      simp only [List.setIfInBounds_toArray, List.set_cons_zero, List.set_cons_succ]
      refine wpAnyH_tk (i := 4) 59 (v := ?_) rfl rfl (by kernel_rfl) (by kernel_rfl) (by kernel_rfl) (by rfl) (fun wq hwq => ?_) ?_
      rotate_left
      · (go_simp <;> with_reducible rfl)
      simp only [List.setIfInBounds_toArray, List.set_cons_zero, List.set_cons_succ]
      refine wpAnyH_tk (i := 5) 60 (v := ?_) rfl rfl (by kernel_rfl) (by kernel_rfl) (by kernel_rfl) (by rfl) (fun wq hwq => ?_) ?_
      rotate_left
      · (go_simp <;> with_reducible rfl)
      simp only [List.setIfInBounds_toArray, List.set_cons_zero, List.set_cons_succ]
      refine wpAnyH_tk (i := 6) 61 (v := ?_) rfl rfl (by kernel_rfl) (by kernel_rfl) (by kernel_rfl) (by rfl) (fun wq hwq => ?_) ?_
      rotate_left
      · (go_simp <;> with_reducible rfl)
      simp only [List.setIfInBounds_toArray, List.set_cons_zero, List.set_cons_succ]
      refine wpAnyH_tk (i := 7) 62 (v := .agg r2.cells) rfl rfl (by kernel_rfl) (by kernel_rfl) (by kernel_rfl) (by rfl) (fun wq hwq => exec_ldMo _ _ _ _ rfl rfl rfl ((HB5.out).below hwq)) ?_
      simp only [List.setIfInBounds_toArray, List.set_cons_zero, List.set_cons_succ]
      refine wpAnyH_one (i := 8) rfl (by kernel_rfl) (by rfl) (fun K hK => ?_)
      go_simp
      refine (sameMsg_self r r2 _ HR5.out HM5.out HRM.out (by rw [HRM.out]; exact HSM.out)).mono ?_
      rintro e w6 ⟨rfl, hb⟩
      have HA6 := Lib.hid (HA5.out.below hb)
      have HT6 := Lib.hid (HT5.out.below hb)
      refine hK.out _ _ hb ?_
      clear hK K
      clear hb HA5 HT5 HX5 HR5 HB5 HM5
      refine wpAnyH_tk (i := 9) 64 (v := ?_) rfl rfl (by kernel_rfl) (by kernel_rfl) (by kernel_rfl) (by rfl) (fun wq hwq => ?_) ?_
      rotate_left
      · (go_simp <;> with_reducible rfl)
      simp only [List.setIfInBounds_toArray, List.set_cons_zero, List.set_cons_succ]
      refine wpAnyH_tk (i := 10) 65 (v := ?_) rfl rfl (by kernel_rfl) (by kernel_rfl) (by kernel_rfl) (by rfl) (fun wq hwq => ?_) ?_
      rotate_left
      · (go_simp <;> with_reducible rfl)
      simp only [List.setIfInBounds_toArray, List.set_cons_zero, List.set_cons_succ]
      refine wpAnyH_tk (i := 11) 66 (v := ?_) rfl rfl (by kernel_rfl) (by kernel_rfl) (by kernel_rfl) (by rfl) (fun wq hwq => ?_) ?_
      rotate_left
      · (go_simp <;> with_reducible rfl)
      simp only [List.setIfInBounds_toArray, List.set_cons_zero, List.set_cons_succ]
      refine wpAnyH_tk (i := 12) 67 (v := ?_) rfl rfl (by kernel_rfl) (by kernel_rfl) (by kernel_rfl) (by rfl) (fun wq hwq => ?_) ?_
      rotate_left
      · (go_simp <;> with_reducible rfl)
      simp only [List.setIfInBounds_toArray, List.set_cons_zero, List.set_cons_succ]
      refine wpAnyH_tk (i := 14) 69 (v := ?_) rfl rfl (by kernel_rfl) (by kernel_rfl) (by kernel_rfl) (by rfl) (fun wq hwq => ?_) ?_
      rotate_left
      · (go_simp <;> with_reducible rfl)
      simp only [List.setIfInBounds_toArray, List.set_cons_zero, List.set_cons_succ]
      refine wpAnyH_tk (i := 15) 70 (v := ?_) rfl rfl (by kernel_rfl) (by kernel_rfl) (by kernel_rfl) (by rfl) (fun wq hwq => ?_) ?_
      rotate_left
      · (go_simp <;> with_reducible rfl)
      simp only [List.setIfInBounds_toArray, List.set_cons_zero, List.set_cons_succ]
      refine wpAnyH_tk (i := 16) 71 (v := ?_) rfl rfl (by kernel_rfl) (by kernel_rfl) (by kernel_rfl) (by rfl) (fun wq hwq => ?_) ?_
      rotate_left
      · (go_simp <;> with_reducible rfl)
      simp only [List.setIfInBounds_toArray, List.set_cons_zero, List.set_cons_succ]
      refine wpAnyH_tk (i := 17) 72 (v := ?_) rfl rfl (by kernel_rfl) (by kernel_rfl) (by kernel_rfl) (by rfl) (fun wq hwq => ?_) ?_
      rotate_left
      · (go_simp <;> with_reducible rfl)
      simp only [List.setIfInBounds_toArray, List.set_cons_zero, List.set_cons_succ]
      refine wpAnyH_tk (i := 18) 73 (v := ?_) rfl rfl (by kernel_rfl) (by kernel_rfl) (by kernel_rfl) (by rfl) (fun wq hwq => ?_) ?_
      rotate_left
      · (go_simp <;> with_reducible rfl)
      simp only [List.setIfInBounds_toArray, List.set_cons_zero, List.set_cons_succ]
      obtain ⟨ga, o, hA⟩ := HA6.out.nt
      have HAA := Lib.hid hA
      clear hA
      refine wpAnyH_one (i := 13) rfl (by kernel_rfl) (by rfl) (fun K hK => ?_)
      go_simp
      refine (ntLen_any HAA.out q HQ.out).mono ?_
      rintro e w7 ⟨rfl, rfl⟩
      refine hK.out _ _ (Ext.refl w6) ?_
      clear hK K
      refine wpAnyH_tk (i := 19) 74 (v := ?_) rfl rfl (by kernel_rfl) (by kernel_rfl) (by kernel_rfl) (by rfl) (fun wq hwq => ?_) ?_
      rotate_left
      · (go_simp <;> with_reducible rfl)
      simp only [List.setIfInBounds_toArray, List.set_cons_zero, List.set_cons_succ]
      refine wpAnyH_tk (i := 20) 75 (v := ?_) rfl rfl (by kernel_rfl) (by kernel_rfl) (by kernel_rfl) (by rfl) (fun wq hwq => ?_) ?_
      rotate_left
      · (go_simp <;> with_reducible rfl)
      simp only [List.setIfInBounds_toArray, List.set_cons_zero, List.set_cons_succ]
      refine wpAnyH_done (by kernel_rfl) ?_ _
      refine NoPanic.normal ?_
      go_wp2
      go_round
      case rel => exact ⟨k + 1, N4, by omega, by go_num, HT6, HA6⟩
      case measure => simp [intOf]; omega
    · obtain rfl : k = n := by omega
      have HE : Hid ((ss.drop k).map Rm.m = []) := by show _ = _; rw [List.drop_of_length_le (by rw [HN.out]; omega)]; rfl
      rw [HE.out] at HA
      go_wp2_with fail
      refine (dlv_no HA.out.nt 0).mono ?_
      rintro e w3 ⟨rfl, hb⟩
      have E3 := Lib.hid (HA.out.below hb).bel
      clear hb HA HT
      go_wp2_with (refine wpList_st 35 19 (w3.heap.size) 0 35 #[.int .i64 0, .int .i64 0, .int .i64 0, .int .i64 0, .int .i64 0, .int .i64 0, .int .i64 0, .int .i64 0, .string ⟨#[]⟩, .int .i64 0, .int .u32 0, .slice none 0 0, .int .i64 0, .slice none 0 0, .slice none 0 0, .int .i64 0, .slice none 0 0, .slice none 0 0, .slice none 0 0] #[.int .i64 0, .int .i64 0, .int .i64 0, .int .i64 0, .int .i64 0, .int .i64 0, .int .i64 0, .int .i64 0, .string ⟨#[]⟩, .int .i64 0, .int .u32 0, .slice none 0 0, .int .i64 0, .slice none 0 0, .slice none 0 0, .int .i64 0, .slice none 0 0, .slice none 0 0, .slice none 0 0] #[.int .i64 0, .int .i64 0, .int .i64 0, .int .i64 0, .int .i64 0, .int .i64 0, .int .i64 0, .int .i64 0, .string ⟨#[]⟩, .int .i64 0, .int .u32 0, .slice none 0 0, .int .i64 0, .slice none 0 0, .slice none 0 0, .int .i64 0, .slice none 0 0, .slice none 0 0, .slice none 0 0] _ _ rfl rfl rfl rfl rfl (by kernel_rfl) rfl (bx_new w3 #[.int .i64 0, .int .i64 0, .int .i64 0, .int .i64 0, .int .i64 0, .int .i64 0, .int .i64 0, .int .i64 0, .string ⟨#[]⟩, .int .i64 0, .int .u32 0, .slice none 0 0, .int .i64 0, .slice none 0 0, .slice none 0 0, .int .i64 0, .slice none 0 0, .slice none 0 0, .slice none 0 0] 35) (by simp) zero_ones rfl ?_; intro w4 hx4 hc4; have hb4 : Below w3.heap.size w3 w4 := hc4.below (below_one w3 _) (by simp) (by simp); have E4 : Hid (Ext w w4) := Ext.trans E3.out hb4; clear hx4 hc4 hb4 E3)
      refine (awake13 _).mono ?_
      rintro e w5 ⟨rfl, hb⟩
      have E5 := Lib.hid (Ext.trans E4.out hb)
      go_wp2
      go_ret
      exact ⟨rfl, E5.out⟩

end Go.Proofs.Ytggjpjpemgpeeaa
