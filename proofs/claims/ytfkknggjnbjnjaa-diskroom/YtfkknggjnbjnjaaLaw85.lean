/-
  The walk of the law DiskRoom.
-/
import Derived.Test.YtfkknggjnbjnjaaAwake8
import Derived.Deep.DeepCutAuto
namespace Go.Proofs.Ytfkknggjnbjnjaa
open Go.RowKit

theorem room_u8 (r : Nat) (h : r < 256) : roomOf (r : Int) = r := by
  unfold roomOf
  rw [if_neg (by omega), if_neg (by omega), Int.toNat_natCast]

theorem rm_full (ps row : List Nat) (r : Nat) (h : r < ps.length + row.length) : wrt ⟨ps, r, false, false, 0⟩ row false = (5, ⟨ps, r, false, false, 0⟩) := by
  unfold wrt
  rw [if_neg (by simp), if_pos (by simpa using h)]

theorem rm_fits (ps row : List Nat) (r : Nat) (h : ¬ r < ps.length + row.length) : wrt ⟨ps, r, false, false, 0⟩ row false = (0, ⟨ps ++ row, r, false, false, 0⟩) := by
  unfold wrt
  rw [if_neg (by simp), if_neg (by simpa using h), if_neg (by simp)]
  rfl

set_option maxRecDepth 100000 in
set_option maxHeartbeats 4000000 in
theorem diskRoom_walk (a0 : Int) (a1 : Option Addr) (len1 cap1 : Nat) (m1 : List (List Nat)) (w : World) (w0 : (Lit.int .u8 a0).wf = true) (w1 : m1.length = len1 ∧ GridAt w a1 cap1 m1) :
    Calls Try.prog 7 #[.int .u8 a0, .slice a1 len1 cap1] w fun e w' => e = .returned (.bool true) ∧ Below w.heap.size w w' := by
  obtain ⟨r, hr, rfl⟩ := u8_of w0
  have hm1 : len1 ≤ maxLen := by have := w1.1; have := w1.2.le; have := w1.2.max; omega
  unfold maxLen at hm1
  have HL := Lib.hid w1.1
  have HG := Lib.hid w1.2
  clear w0 w1
  go_enter Try.func7, Try.ntmps7
  go_wp2_with fail
  refine (disk_new (r : Int) _).mono ?_
  rintro e x1 ⟨R, rfl, -, hd1, hb1⟩
  rw [room_u8 r hr] at hd1
  have H1 : Hid (DW w x1 R none ⟨[], r, false, false, 0⟩) := ⟨hd1, hb1⟩
  clear hd1 hb1
  go_wp2
  go_loopw [6, 7, 8, 9, 10, 11, 12, 33, 44] (fun i _ _ _ _ _ _ _ _ ws => ∃ (j : Nat) (b : Option Addr) (ps : List Nat), j ≤ len1 ∧ j ≤ 40 ∧ i = .int .i64 (j : Int) ∧ Hid (DW w ws R b ⟨ps, r, false, false, 0⟩)) (fun i _ _ _ _ _ _ _ _ _ => 40 - (intOf i).toNat)
  case atStart => exact ⟨0, none, [], Nat.zero_le _, Nat.zero_le _, rfl, H1⟩
  case round =>
    obtain ⟨j, b, ps, hj, hj40, rfl, HD⟩ := hrel
    by_cases hlt : j < len1 ∧ j < 40
    · obtain ⟨hlt, hlt4⟩ := hlt
      have d1 : decide ((j : Int) < (len1 : Int)) = true := by simp; omega
      have d2 : decide (j < len1) = true := by simp; omega
      have d3 : decide ((j : Int) < 40) = true := by simp; omega
      obtain ⟨gb, go, rw0, rfl, hcell, ra, rc, rfl, hrow⟩ := HG.out.row j (by rw [HL.out]; exact hlt)
      have hcr : wr.cell? ⟨gb, go + j, none⟩ = some (.slice ra (m1.getD j []).length rc) := cell_later HD.out.bel hcell
      have HROW := Lib.hid hrow
      have HCB : Hid (gb < w.heap.size) := World.block_lt_of_cell? w _ hcell
      have hrl : (m1.getD j []).length ≤ maxLen := by have := hrow.le; have := hrow.max; omega
      unfold maxLen at hrl
      clear hrow hcell
      generalize hrow : m1.getD j [] = row at *
      generalize hlen : row.length = l at *
      have HLR := Lib.hid hlen
      clear hrow hlen
      have j0 : (0 : Int) ≤ (j : Int) := by omega
      have j1 : (j : Int) < (len1 : Int) := by omega
      by_cases h300 : 300 < l
      · have d4 : decide ((300 : Int) < (l : Int)) = true := by simp; omega
        go_wp2_with fail
        refine (awake8 _).mono ?_
        rintro e x2 ⟨rfl, hb2⟩
        have H2 := Lib.hid (HD.out.below hb2).bel
        clear hb2
        go_wp2
        go_ret
        exact ⟨rfl, H2.out⟩
      have d4 : decide ((300 : Int) < (l : Int)) = false := by simp; omega
      have hps : ps.length ≤ r := HD.out.dsk.fits
      have HFAR : Hid (row ≠ [] → ∀ g ∈ blk ra, g ≠ R) := fun hb => HD.out.far HROW.out hb
      go_wp2_with fail
      refine (disk_read_on w.heap.size R b _ _ HD.out.dsk rfl).mono ?_
      rintro e x2 ⟨a2, c2, rfl, hs2, hf2, hb2⟩
      have H2 := Lib.hid (HD.out.below hb2)
      have HS2 := Lib.hid hs2
      have HF2 := Lib.hid hf2
      have hcr2 := cell_later hb2 hcr
      clear hs2 hf2 hb2 hcr
      dsimp only at HS2
      go_wp2_with fail
      refine (disk_append w.heap.size R b ⟨ps, r, false, false, 0⟩ ra rc l row _ H2.out.dsk HLR.out (HROW.out.below H2.out.bel) HFAR.out).mono ?_
      by_cases hf : r < ps.length + l
      · have KW := Lib.hid (rm_full ps row r (by rw [HLR.out]; exact hf))
        rw [KW.out]
        rintro e x3 ⟨rfl, b3, hd3, hg3, _⟩
        have H3 : Hid (DW w x3 R b3 ⟨ps, r, false, false, 0⟩) := H2.out.wrote hd3 hg3
        have HS3 := Lib.hid (seen_off HS2.out HF2.out HD.out.dsk hg3)
        have hcr3 : x3.cell? ⟨gb, go + j, none⟩ = some (.slice ra l rc) := by
          refine hg3.cell hcr2 ?_
          have hlt2 := HCB.out
          intro hm
          rcases List.mem_cons.mp hm with e3 | e3
          · have := HD.out.dsk.base; simp at e3; omega
          · obtain ⟨cap, _, hc⟩ := HD.out.dsk.con
            have := (hc.lt e3).1; simp at this; omega
        clear hd3 hg3 HS2 HF2 HD H2 KW hcr2
        go_wp2_with fail
        refine (disk_read_on w.heap.size R b3 _ _ H3.out.dsk rfl).mono ?_
        rintro e x4 ⟨a4, c4, rfl, hs4, _, hb4⟩
        have H4 := Lib.hid (H3.out.below hb4)
        have HS4 := Lib.hid hs4
        have HB4 := Lib.hid (HS3.out.below hb4)
        have hcr4 := cell_later hb4 hcr3
        dsimp only at HS4
        clear hs4 hb4 hcr3 H3 HS3
        have d5 : decide ((r : Int) < (ps.length : Int)) = false := by simp; omega
        have d5' : decide (r < ps.length) = false := by simp; omega
        have d6 : decide ((r : Int) < (ps.length : Int) + (l : Int)) = true := by simp; omega
        have HA : Hid (∀ wq, Ext x4.drew wq → SeenAt wq a4 c4 ps) := fun wq h => (HS4.out.below (below_drew x4)).below h
        have HB : Hid (∀ wq, Ext x4.drew wq → SeenAt wq a2 c2 ps) := fun wq h => (HB4.out.below (below_drew x4)).below h
        go_upto_region 13 with fail
        refine wp_region_ext (by kernel_rfl) ?_
        refine wpAnyH_tk (i := 0) 73 (v := ?_) rfl rfl (by kernel_rfl) (by kernel_rfl) (by kernel_rfl) (by rfl) (fun wq hwq => ?_) ?_
        rotate_left
        · (go_simp <;> with_reducible rfl)
        simp only [List.setIfInBounds_toArray, List.set_cons_zero, List.set_cons_succ]
        refine wpAnyH_tk (i := 1) 74 (v := ?_) rfl rfl (by kernel_rfl) (by kernel_rfl) (by kernel_rfl) (by rfl) (fun wq hwq => ?_) ?_
        rotate_left
        · (go_simp <;> with_reducible rfl)
        simp only [List.setIfInBounds_toArray, List.set_cons_zero, List.set_cons_succ]
        refine wpAnyH_tk (i := 2) 75 (v := ?_) rfl rfl (by kernel_rfl) (by kernel_rfl) (by kernel_rfl) (by rfl) (fun wq hwq => ?_) ?_
        rotate_left
        · (go_simp <;> with_reducible rfl)
        simp only [List.setIfInBounds_toArray, List.set_cons_zero, List.set_cons_succ]
        refine wpAnyH_tk (i := 3) 76 (v := ?_) rfl rfl (by kernel_rfl) (by kernel_rfl) (by kernel_rfl) (by rfl) (fun wq hwq => ?_) ?_
        rotate_left
        · (go_simp <;> with_reducible rfl)
        simp only [List.setIfInBounds_toArray, List.set_cons_zero, List.set_cons_succ]
        refine wpAnyH_tk (i := 4) 77 (v := ?_) rfl rfl (by kernel_rfl) (by kernel_rfl) (by kernel_rfl) (by rfl) (fun wq hwq => ?_) ?_
        rotate_left
        · (go_simp <;> with_reducible rfl)
        simp only [List.setIfInBounds_toArray, List.set_cons_zero, List.set_cons_succ]
        refine wpAnyH_tk (i := 5) 78 (v := ?_) rfl rfl (by kernel_rfl) (by kernel_rfl) (by kernel_rfl) (by rfl) (fun wq hwq => ?_) ?_
        rotate_left
        · (go_simp <;> with_reducible rfl)
        simp only [List.setIfInBounds_toArray, List.set_cons_zero, List.set_cons_succ]
        refine wpAnyH_tk (i := 6) 79 (v := ?_) rfl rfl (by kernel_rfl) (by kernel_rfl) (by kernel_rfl) (by rfl) (fun wq hwq => ?_) ?_
        rotate_left
        · (go_simp <;> with_reducible rfl)
        simp only [List.setIfInBounds_toArray, List.set_cons_zero, List.set_cons_succ]
        refine wpAnyH_tk (i := 7) 80 (v := ?_) rfl rfl (by kernel_rfl) (by kernel_rfl) (by kernel_rfl) (by rfl) (fun wq hwq => ?_) ?_
        rotate_left
        · (go_simp <;> with_reducible rfl)
        simp only [List.setIfInBounds_toArray, List.set_cons_zero, List.set_cons_succ]
        refine wpAnyH_tk (i := 8) 81 (v := ?_) rfl rfl (by kernel_rfl) (by kernel_rfl) (by kernel_rfl) (by rfl) (fun wq hwq => ?_) ?_
        rotate_left
        · (have hx := str_of (HA.out wq hwq); go_simp <;> with_reducible rfl)
        simp only [List.setIfInBounds_toArray, List.set_cons_zero, List.set_cons_succ]
        refine wpAnyH_tk (i := 9) 82 (v := ?_) rfl rfl (by kernel_rfl) (by kernel_rfl) (by kernel_rfl) (by rfl) (fun wq hwq => ?_) ?_
        rotate_left
        · (go_simp <;> with_reducible rfl)
        simp only [List.setIfInBounds_toArray, List.set_cons_zero, List.set_cons_succ]
        refine wpAnyH_tk (i := 10) 83 (v := ?_) rfl rfl (by kernel_rfl) (by kernel_rfl) (by kernel_rfl) (by rfl) (fun wq hwq => ?_) ?_
        rotate_left
        · (have hx := str_of (HB.out wq hwq); go_simp <;> with_reducible rfl)
        simp only [List.setIfInBounds_toArray, List.set_cons_zero, List.set_cons_succ]
        refine wpAnyH_tk (i := 11) 84 (v := ?_) rfl rfl (by kernel_rfl) (by kernel_rfl) (by kernel_rfl) (by rfl) (fun wq hwq => ?_) ?_
        rotate_left
        · (go_simp <;> with_reducible rfl)
        simp only [List.setIfInBounds_toArray, List.set_cons_zero, List.set_cons_succ]
        refine wpAnyH_tk (i := 12) 85 (v := ?_) rfl rfl (by kernel_rfl) (by kernel_rfl) (by kernel_rfl) (by rfl) (fun wq hwq => ?_) ?_
        rotate_left
        · (go_simp <;> with_reducible rfl)
        simp only [List.setIfInBounds_toArray, List.set_cons_zero, List.set_cons_succ]
        refine wpAnyH_tk (i := 13) 86 (v := ?_) rfl rfl (by kernel_rfl) (by kernel_rfl) (by kernel_rfl) (by rfl) (fun wq hwq => ?_) ?_
        rotate_left
        · (go_simp <;> with_reducible rfl)
        simp only [List.setIfInBounds_toArray, List.set_cons_zero, List.set_cons_succ]
        refine wpAnyH_tk (i := 14) 87 (v := ?_) rfl rfl (by kernel_rfl) (by kernel_rfl) (by kernel_rfl) (by rfl) (fun wq hwq => ?_) ?_
        rotate_left
        · (go_simp <;> with_reducible rfl)
        simp only [List.setIfInBounds_toArray, List.set_cons_zero, List.set_cons_succ]
        refine wpAnyH_tk (i := 15) 88 (v := ?_) rfl rfl (by kernel_rfl) (by kernel_rfl) (by kernel_rfl) (by rfl) (fun wq hwq => ?_) ?_
        rotate_left
        · (go_simp <;> with_reducible rfl)
        simp only [List.setIfInBounds_toArray, List.set_cons_zero, List.set_cons_succ]
        refine wpAnyH_tk (i := 16) 89 (v := ?_) rfl rfl (by kernel_rfl) (by kernel_rfl) (by kernel_rfl) (by rfl) (fun wq hwq => ?_) ?_
        rotate_left
        · (go_simp <;> with_reducible rfl)
        simp only [List.setIfInBounds_toArray, List.set_cons_zero, List.set_cons_succ]
        refine wpAnyH_tk (i := 17) 90 (v := ?_) rfl rfl (by kernel_rfl) (by kernel_rfl) (by kernel_rfl) (by rfl) (fun wq hwq => ?_) ?_
        rotate_left
        · (go_simp <;> with_reducible rfl)
        simp only [List.setIfInBounds_toArray, List.set_cons_zero, List.set_cons_succ]
        refine wpAnyH_not (i := 18) 91 rfl rfl (by kernel_rfl) (by kernel_rfl) (by kernel_rfl) (by rfl) ?_
        simp only [List.setIfInBounds_toArray, List.set_cons_zero, List.set_cons_succ]
        refine wpAnyH_not (i := 19) 92 rfl rfl (by kernel_rfl) (by kernel_rfl) (by kernel_rfl) (by rfl) ?_
        simp only [List.setIfInBounds_toArray, List.set_cons_zero, List.set_cons_succ]
        refine wpAnyH_not (i := 20) 93 rfl rfl (by kernel_rfl) (by kernel_rfl) (by kernel_rfl) (by rfl) ?_
        simp only [List.setIfInBounds_toArray, List.set_cons_zero, List.set_cons_succ]
        refine wpAnyH_not (i := 21) 94 rfl rfl (by kernel_rfl) (by kernel_rfl) (by kernel_rfl) (by rfl) ?_
        simp only [List.setIfInBounds_toArray, List.set_cons_zero, List.set_cons_succ]
        refine wpAnyH_not (i := 22) 95 rfl rfl (by kernel_rfl) (by kernel_rfl) (by kernel_rfl) (by rfl) ?_
        simp only [List.setIfInBounds_toArray, List.set_cons_zero, List.set_cons_succ]
        refine wpAnyH_not (i := 23) 96 rfl rfl (by kernel_rfl) (by kernel_rfl) (by kernel_rfl) (by rfl) ?_
        simp only [List.setIfInBounds_toArray, List.set_cons_zero, List.set_cons_succ]
        refine wpAnyH_not (i := 24) 97 rfl rfl (by kernel_rfl) (by kernel_rfl) (by kernel_rfl) (by rfl) ?_
        simp only [List.setIfInBounds_toArray, List.set_cons_zero, List.set_cons_succ]
        refine wpAnyH_not (i := 25) 98 rfl rfl (by kernel_rfl) (by kernel_rfl) (by kernel_rfl) (by rfl) ?_
        simp only [List.setIfInBounds_toArray, List.set_cons_zero, List.set_cons_succ]
        refine wpAnyH_not (i := 26) 99 rfl rfl (by kernel_rfl) (by kernel_rfl) (by kernel_rfl) (by rfl) ?_
        simp only [List.setIfInBounds_toArray, List.set_cons_zero, List.set_cons_succ]
        refine wpAnyH_not (i := 27) 100 rfl rfl (by kernel_rfl) (by kernel_rfl) (by kernel_rfl) (by rfl) ?_
        simp only [List.setIfInBounds_toArray, List.set_cons_zero, List.set_cons_succ]
        refine wpAnyH_not (i := 28) 101 rfl rfl (by kernel_rfl) (by kernel_rfl) (by kernel_rfl) (by rfl) ?_
        simp only [List.setIfInBounds_toArray, List.set_cons_zero, List.set_cons_succ]
        refine wpAnyH_tk (i := 29) 102 (v := ?_) rfl rfl (by kernel_rfl) (by kernel_rfl) (by kernel_rfl) (by rfl) (fun wq hwq => ?_) ?_
        rotate_left
        · (go_simp <;> with_reducible rfl)
        simp only [List.setIfInBounds_toArray, List.set_cons_zero, List.set_cons_succ]
        refine wpAnyH_tk (i := 30) 103 (v := ?_) rfl rfl (by kernel_rfl) (by kernel_rfl) (by kernel_rfl) (by rfl) (fun wq hwq => ?_) ?_
        rotate_left
        · (go_simp <;> with_reducible rfl)
        simp only [List.setIfInBounds_toArray, List.set_cons_zero, List.set_cons_succ]
        refine wpAnyH_done (by kernel_rfl) ?_ _
        refine NoPanic.normal ?_
        have H5 := Lib.hid (H4.out.below (below_drew x4))
        clear H4 HA HB HS4 HB4
        go_wp2
        go_roundw
        case rel => exact ⟨j + 1, b3, ps, by omega, by omega, by go_num, H5⟩
        case measure => simp [intOf]; omega
      · have KW := Lib.hid (rm_fits ps row r (by rw [HLR.out]; exact hf))
        rw [KW.out]
        rintro e x3 ⟨rfl, b3, hd3, hg3, _⟩
        have H3 : Hid (DW w x3 R b3 ⟨ps ++ row, r, false, false, 0⟩) := H2.out.wrote hd3 hg3
        have HS3 := Lib.hid (seen_off HS2.out HF2.out HD.out.dsk hg3)
        have hcr3 : x3.cell? ⟨gb, go + j, none⟩ = some (.slice ra l rc) := by
          refine hg3.cell hcr2 ?_
          have hlt2 := HCB.out
          intro hm
          rcases List.mem_cons.mp hm with e3 | e3
          · have := HD.out.dsk.base; simp at e3; omega
          · obtain ⟨cap, _, hc⟩ := HD.out.dsk.con
            have := (hc.lt e3).1; simp at this; omega
        clear hd3 hg3 HS2 HF2 HD H2 KW hcr2
        go_wp2_with fail
        refine (disk_read_on w.heap.size R b3 _ _ H3.out.dsk rfl).mono ?_
        rintro e x4 ⟨a4, c4, rfl, hs4, _, hb4⟩
        have H4 := Lib.hid (H3.out.below hb4)
        have HS4 := Lib.hid hs4
        have HB4 := Lib.hid (HS3.out.below hb4)
        have hcr4 := cell_later hb4 hcr3
        dsimp only at HS4
        have HQ : Hid ((ps ++ row).length = ps.length + l) := by show _ = _; rw [List.length_append, HLR.out]
        have HSX : Hid (strB (ps ++ row) = strB ps ++ strB row) := strB_app ps row
        have hsz : ¬ 9223372036854775807 < (strB ps).size + (strB row).size := by rw [strB_size, strB_size, HLR.out]; omega
        rw [HQ.out]
        generalize ps ++ row = qs at *
        clear hs4 hb4 hcr3 H3 HS3
        have d5 : decide ((r : Int) < (ps.length : Int) + (l : Int)) = false := by simp; omega
        have d5' : decide (r < ps.length + l) = false := by simp; omega
        have HA : Hid (∀ wq, Ext x4.drew wq → SeenAt wq a4 c4 qs) := fun wq h => (HS4.out.below (below_drew x4)).below h
        have HB : Hid (∀ wq, Ext x4.drew wq → SeenAt wq a2 c2 ps) := fun wq h => (HB4.out.below (below_drew x4)).below h
        have HC : Hid (∀ wq, Ext x4.drew wq → SeenAt wq ra rc row) := fun wq h => ((HROW.out.below H4.out.bel).below (below_drew x4)).below h
        have HSA : Hid (∀ wq, Ext x4.drew wq → (convert 25 9 (.slice a4 (ps.length + l) c4)).run Try.prog wq = .ok (.string (strB ps ++ strB row)) wq) := fun wq h => by
          rw [← HSX.out]
          exact str_at (HA.out wq h) HQ.out
        have HCL : Hid (∀ wq, Ext x4.drew wq → wq.cell? ⟨gb, go + j, none⟩ = some (.slice ra l rc)) := fun wq h => cell_later h (cell_later (below_drew x4) hcr4)
        go_upto_region 13 with fail
        refine wp_region_ext (by kernel_rfl) ?_
        refine wpAnyH_tk (i := 0) 73 (v := ?_) rfl rfl (by kernel_rfl) (by kernel_rfl) (by kernel_rfl) (by rfl) (fun wq hwq => ?_) ?_
        rotate_left
        · (go_simp <;> with_reducible rfl)
        simp only [List.setIfInBounds_toArray, List.set_cons_zero, List.set_cons_succ]
        refine wpAnyH_tk (i := 1) 74 (v := ?_) rfl rfl (by kernel_rfl) (by kernel_rfl) (by kernel_rfl) (by rfl) (fun wq hwq => ?_) ?_
        rotate_left
        · (go_simp <;> with_reducible rfl)
        simp only [List.setIfInBounds_toArray, List.set_cons_zero, List.set_cons_succ]
        refine wpAnyH_tk (i := 2) 75 (v := ?_) rfl rfl (by kernel_rfl) (by kernel_rfl) (by kernel_rfl) (by rfl) (fun wq hwq => ?_) ?_
        rotate_left
        · (go_simp <;> with_reducible rfl)
        simp only [List.setIfInBounds_toArray, List.set_cons_zero, List.set_cons_succ]
        refine wpAnyH_tk (i := 3) 76 (v := ?_) rfl rfl (by kernel_rfl) (by kernel_rfl) (by kernel_rfl) (by rfl) (fun wq hwq => ?_) ?_
        rotate_left
        · (go_simp <;> with_reducible rfl)
        simp only [List.setIfInBounds_toArray, List.set_cons_zero, List.set_cons_succ]
        refine wpAnyH_tk (i := 4) 77 (v := ?_) rfl rfl (by kernel_rfl) (by kernel_rfl) (by kernel_rfl) (by rfl) (fun wq hwq => ?_) ?_
        rotate_left
        · (go_simp <;> with_reducible rfl)
        simp only [List.setIfInBounds_toArray, List.set_cons_zero, List.set_cons_succ]
        refine wpAnyH_tk (i := 5) 78 (v := ?_) rfl rfl (by kernel_rfl) (by kernel_rfl) (by kernel_rfl) (by rfl) (fun wq hwq => ?_) ?_
        rotate_left
        · (go_simp <;> with_reducible rfl)
        simp only [List.setIfInBounds_toArray, List.set_cons_zero, List.set_cons_succ]
        refine wpAnyH_tk (i := 6) 79 (v := ?_) rfl rfl (by kernel_rfl) (by kernel_rfl) (by kernel_rfl) (by rfl) (fun wq hwq => ?_) ?_
        rotate_left
        · (go_simp <;> with_reducible rfl)
        simp only [List.setIfInBounds_toArray, List.set_cons_zero, List.set_cons_succ]
        refine wpAnyH_not (i := 7) 80 rfl rfl (by kernel_rfl) (by kernel_rfl) (by kernel_rfl) (by rfl) ?_
        simp only [List.setIfInBounds_toArray, List.set_cons_zero, List.set_cons_succ]
        refine wpAnyH_not (i := 8) 81 rfl rfl (by kernel_rfl) (by kernel_rfl) (by kernel_rfl) (by rfl) ?_
        simp only [List.setIfInBounds_toArray, List.set_cons_zero, List.set_cons_succ]
        refine wpAnyH_not (i := 9) 82 rfl rfl (by kernel_rfl) (by kernel_rfl) (by kernel_rfl) (by rfl) ?_
        simp only [List.setIfInBounds_toArray, List.set_cons_zero, List.set_cons_succ]
        refine wpAnyH_not (i := 10) 83 rfl rfl (by kernel_rfl) (by kernel_rfl) (by kernel_rfl) (by rfl) ?_
        simp only [List.setIfInBounds_toArray, List.set_cons_zero, List.set_cons_succ]
        refine wpAnyH_not (i := 11) 84 rfl rfl (by kernel_rfl) (by kernel_rfl) (by kernel_rfl) (by rfl) ?_
        simp only [List.setIfInBounds_toArray, List.set_cons_zero, List.set_cons_succ]
        refine wpAnyH_tk (i := 12) 85 (v := ?_) rfl rfl (by kernel_rfl) (by kernel_rfl) (by kernel_rfl) (by rfl) (fun wq hwq => ?_) ?_
        rotate_left
        · (go_simp <;> with_reducible rfl)
        simp only [List.setIfInBounds_toArray, List.set_cons_zero, List.set_cons_succ]
        refine wpAnyH_tk (i := 13) 86 (v := ?_) rfl rfl (by kernel_rfl) (by kernel_rfl) (by kernel_rfl) (by rfl) (fun wq hwq => ?_) ?_
        rotate_left
        · (go_simp <;> with_reducible rfl)
        simp only [List.setIfInBounds_toArray, List.set_cons_zero, List.set_cons_succ]
        refine wpAnyH_tk (i := 14) 87 (v := ?_) rfl rfl (by kernel_rfl) (by kernel_rfl) (by kernel_rfl) (by rfl) (fun wq hwq => ?_) ?_
        rotate_left
        · (go_simp <;> with_reducible rfl)
        simp only [List.setIfInBounds_toArray, List.set_cons_zero, List.set_cons_succ]
        refine wpAnyH_tk (i := 15) 88 (v := ?_) rfl rfl (by kernel_rfl) (by kernel_rfl) (by kernel_rfl) (by rfl) (fun wq hwq => ?_) ?_
        rotate_left
        · (go_simp <;> with_reducible rfl)
        simp only [List.setIfInBounds_toArray, List.set_cons_zero, List.set_cons_succ]
        refine wpAnyH_tk (i := 16) 89 (v := ?_) rfl rfl (by kernel_rfl) (by kernel_rfl) (by kernel_rfl) (by rfl) (fun wq hwq => ?_) ?_
        rotate_left
        · (go_simp <;> with_reducible rfl)
        simp only [List.setIfInBounds_toArray, List.set_cons_zero, List.set_cons_succ]
        refine wpAnyH_tk (i := 17) 90 (v := ?_) rfl rfl (by kernel_rfl) (by kernel_rfl) (by kernel_rfl) (by rfl) (fun wq hwq => ?_) ?_
        rotate_left
        · (go_simp <;> with_reducible rfl)
        simp only [List.setIfInBounds_toArray, List.set_cons_zero, List.set_cons_succ]
        refine wpAnyH_tk (i := 18) 91 (v := ?_) rfl rfl (by kernel_rfl) (by kernel_rfl) (by kernel_rfl) (by rfl) (fun wq hwq => ?_) ?_
        rotate_left
        · (go_simp <;> with_reducible rfl)
        simp only [List.setIfInBounds_toArray, List.set_cons_zero, List.set_cons_succ]
        refine wpAnyH_tk (i := 19) 92 (v := ?_) rfl rfl (by kernel_rfl) (by kernel_rfl) (by kernel_rfl) (by rfl) (fun wq hwq => ?_) ?_
        rotate_left
        · (have hx := HSA.out wq hwq; go_simp <;> with_reducible rfl)
        simp only [List.setIfInBounds_toArray, List.set_cons_zero, List.set_cons_succ]
        refine wpAnyH_tk (i := 20) 93 (v := ?_) rfl rfl (by kernel_rfl) (by kernel_rfl) (by kernel_rfl) (by rfl) (fun wq hwq => ?_) ?_
        rotate_left
        · (go_simp <;> with_reducible rfl)
        simp only [List.setIfInBounds_toArray, List.set_cons_zero, List.set_cons_succ]
        refine wpAnyH_tk (i := 21) 94 (v := ?_) rfl rfl (by kernel_rfl) (by kernel_rfl) (by kernel_rfl) (by rfl) (fun wq hwq => ?_) ?_
        rotate_left
        · (have hx := str_of (HB.out wq hwq); go_simp <;> with_reducible rfl)
        simp only [List.setIfInBounds_toArray, List.set_cons_zero, List.set_cons_succ]
        refine wpAnyH_tk (i := 22) 95 (v := ?_) rfl rfl (by kernel_rfl) (by kernel_rfl) (by kernel_rfl) (by rfl) (fun wq hwq => ?_) ?_
        rotate_left
        · (go_simp <;> with_reducible rfl)
        simp only [List.setIfInBounds_toArray, List.set_cons_zero, List.set_cons_succ]
        refine wpAnyH_tk (i := 23) 96 (v := ?_) rfl rfl (by kernel_rfl) (by kernel_rfl) (by kernel_rfl) (by rfl) (fun wq hwq => ?_) ?_
        rotate_left
        · (go_simp <;> with_reducible rfl)
        simp only [List.setIfInBounds_toArray, List.set_cons_zero, List.set_cons_succ]
        refine wpAnyH_tk (i := 24) 97 (v := ?_) rfl rfl (by kernel_rfl) (by kernel_rfl) (by kernel_rfl) (by rfl) (fun wq hwq => ?_) ?_
        rotate_left
        · (go_simp <;> with_reducible rfl)
        simp only [List.setIfInBounds_toArray, List.set_cons_zero, List.set_cons_succ]
        refine wpAnyH_tk (i := 25) 98 (v := ?_) rfl rfl (by kernel_rfl) (by kernel_rfl) (by kernel_rfl) (by rfl) (fun wq hwq => ?_) ?_
        rotate_left
        · (have hx := HCL.out wq hwq; go_simp <;> with_reducible rfl)
        simp only [List.setIfInBounds_toArray, List.set_cons_zero, List.set_cons_succ]
        refine wpAnyH_tk (i := 26) 99 (v := ?_) rfl rfl (by kernel_rfl) (by kernel_rfl) (by kernel_rfl) (by rfl) (fun wq hwq => ?_) ?_
        rotate_left
        · (have hx := str_at (HC.out wq hwq) HLR.out; go_simp <;> with_reducible rfl)
        simp only [List.setIfInBounds_toArray, List.set_cons_zero, List.set_cons_succ]
        refine wpAnyH_tk (i := 27) 100 (v := ?_) rfl rfl (by kernel_rfl) (by kernel_rfl) (by kernel_rfl) (by rfl) (fun wq hwq => ?_) ?_
        rotate_left
        · (go_simp <;> with_reducible rfl)
        simp only [List.setIfInBounds_toArray, List.set_cons_zero, List.set_cons_succ]
        refine wpAnyH_tk (i := 28) 101 (v := ?_) rfl rfl (by kernel_rfl) (by kernel_rfl) (by kernel_rfl) (by rfl) (fun wq hwq => ?_) ?_
        rotate_left
        · (go_simp <;> with_reducible rfl)
        simp only [List.setIfInBounds_toArray, List.set_cons_zero, List.set_cons_succ]
        refine wpAnyH_tk (i := 29) 102 (v := ?_) rfl rfl (by kernel_rfl) (by kernel_rfl) (by kernel_rfl) (by rfl) (fun wq hwq => ?_) ?_
        rotate_left
        · (go_simp <;> with_reducible rfl)
        simp only [List.setIfInBounds_toArray, List.set_cons_zero, List.set_cons_succ]
        refine wpAnyH_tk (i := 30) 103 (v := ?_) rfl rfl (by kernel_rfl) (by kernel_rfl) (by kernel_rfl) (by rfl) (fun wq hwq => ?_) ?_
        rotate_left
        · (go_simp <;> with_reducible rfl)
        simp only [List.setIfInBounds_toArray, List.set_cons_zero, List.set_cons_succ]
        refine wpAnyH_done (by kernel_rfl) ?_ _
        refine NoPanic.normal ?_
        have H5 := Lib.hid (H4.out.below (below_drew x4))
        clear H4 HA HB HC HSA HCL HS4 HB4
        go_wp2
        go_roundw
        case rel => exact ⟨j + 1, b3, qs, by omega, by omega, by go_num, H5⟩
        case measure => simp [intOf]; omega
    · have t : decide ((j : Int) < (len1 : Int)) = false ∧ decide (j < len1) = false ∨ decide ((j : Int) < (len1 : Int)) = true ∧ decide (j < len1) = true ∧ decide ((j : Int) < 40) = false := by simp; omega
      rcases t with ⟨t1, t2⟩ | ⟨t1, t2, t3⟩
      all_goals
        go_wp2_with fail
        refine (awake8 _).mono ?_
        rintro e x2 ⟨rfl, hb2⟩
        have H2 := Lib.hid (HD.out.below hb2).bel
        clear hb2
        go_wp2
        go_ret
        exact ⟨rfl, H2.out⟩

end Go.Proofs.Ytfkknggjnbjnjaa
