/-
  The walk of the law DiskBegins.
-/
import Derived.Test.YtfkknggjnbjnjaaLaw84
namespace Go.Proofs.Ytfkknggjnbjnjaa
open Go.RowKit

theorem bg_fits (F row : List Nat) (h : F.length + row.length ≤ 1048576) : wrt ⟨F, 1048576, false, false, 0⟩ row false = (0, ⟨F ++ row, 1048576, false, false, 0⟩) := by
  unfold wrt
  rw [if_neg (by simp), if_neg (by simp; omega), if_neg (by simp)]
  rfl

theorem bg_torn (F row : List Nat) (N : Nat) (h : F.length + row.length ≤ 1048576) : wrt ⟨F, 1048576, false, true, N⟩ row false = (6, ⟨F ++ row.take (min N row.length), 1048576, true, true, N⟩) := by
  unfold wrt
  rw [if_neg (by simp), if_neg (by simp; omega), if_pos rfl]
  have := tornTo_app F row N
  unfold tornTo at this
  rw [this]

theorem take_begin (F row : List Nat) (K : Nat) (h : K ≤ row.length) : (F ++ row).take (F ++ row.take K).length = F ++ row.take K := by
  rw [List.length_append, List.length_take, Nat.min_eq_left h, List.take_append, List.take_of_length_le (by omega), show F.length + K - F.length = K by omega]



set_option maxRecDepth 100000 in
set_option maxHeartbeats 4000000 in
theorem diskBegins_walk (a0 : Option Addr) (len0 cap0 : Nat) (m0 : List (List Nat)) (a1 n : Int) (w : World) (w0 : m0.length = len0 ∧ GridAt w a0 cap0 m0) (w1 : (Lit.int .u8 a1).wf = true) (_ : (Lit.int .i64 n).wf = true) :
    Calls Try.prog 4 #[.slice a0 len0 cap0, .int .u8 a1, .int .i64 n] w fun e w' => e = .returned (.bool true) ∧ Below w.heap.size w w' := by
  obtain ⟨q, hq, rfl⟩ := u8_of w1
  have hm1 : len0 ≤ maxLen := by have := w0.1; have := w0.2.le; have := w0.2.max; omega
  unfold maxLen at hm1
  have HL := Lib.hid w0.1
  have HG := Lib.hid w0.2
  clear w0 w1
  go_enter Try.func4, Try.ntmps4
  go_wp2_with fail
  refine (disk_new 1048576 _).mono ?_
  rintro e x1 ⟨R, rfl, -, hd1, hb1⟩
  rw [show roomOf 1048576 = 1048576 by decide] at hd1
  have H1 : Hid (DW w x1 R none ⟨[], 1048576, false, false, 0⟩) := ⟨hd1, hb1⟩
  clear hd1 hb1
  go_wp2
  go_loopw [8, 9, 10] (fun u v i ws => ∃ (j : Nat) (b : Option Addr) (F : List Nat), j ≤ len0 ∧ j ≤ 30 ∧ F.length ≤ 200 * j ∧ u = .string (strB F) ∧ v = .string (strB F) ∧ i = .int .i64 (j : Int) ∧ Hid (DW w ws R b ⟨F, 1048576, false, false, 0⟩)) (fun _ _ i _ => 30 - (intOf i).toNat)
  case atStart => exact ⟨0, none, [], Nat.zero_le _, Nat.zero_le _, Nat.zero_le _, rfl, rfl, rfl, H1⟩
  case round =>
    obtain ⟨j, b, F, hj, hj30, hF, rfl, rfl, rfl, HD⟩ := hrel
    have HZF := Lib.hid (strB_size F)
    by_cases hlt : j < len0 ∧ j < 30
    · obtain ⟨hlt, hlt3⟩ := hlt
      have d1 : decide ((j : Int) < (len0 : Int)) = true := by simp; omega
      have d2 : decide (j < len0) = true := by simp; omega
      have d3 : decide ((j : Int) < 30) = true := by simp; omega
      obtain ⟨gb, go, rw0, rfl, hcell, ra, rc, rfl, hrow⟩ := HG.out.row j (by rw [HL.out]; exact hlt)
      have hcr : wr.cell? ⟨gb, go + j, none⟩ = some (.slice ra (m0.getD j []).length rc) := cell_later HD.out.bel hcell
      have HROW := Lib.hid hrow
      have HCB : Hid (gb < w.heap.size) := World.block_lt_of_cell? w _ hcell
      have hrl : (m0.getD j []).length ≤ maxLen := by have := hrow.le; have := hrow.max; omega
      unfold maxLen at hrl
      have HCL := Lib.hid hcell
      clear hrow hcell
      generalize hrow : m0.getD j [] = row at *
      generalize hlen : row.length = l at *
      have HLR := Lib.hid hlen
      clear hrow hlen
      have j0 : (0 : Int) ≤ (j : Int) := by omega
      have j1 : (j : Int) < (len0 : Int) := by omega
      by_cases h200 : 200 < l
      · have d4 : decide ((200 : Int) < (l : Int)) = true := by simp; omega
        go_wp2_with fail
        refine (awake8 _).mono ?_
        rintro e x2 ⟨rfl, hb2⟩
        have H2 := Lib.hid (HD.out.below hb2).bel
        clear hb2
        go_wp2
        go_ret
        exact ⟨rfl, H2.out⟩
      have d4 : decide ((200 : Int) < (l : Int)) = false := by simp; omega
      have HFAR : Hid (row ≠ [] → ∀ g ∈ blk ra, g ≠ R) := fun hb => HD.out.far HROW.out hb
      have hZF : ¬ 9223372036854775807 < (strB F).size + (strB row).size := by rw [strB_size, strB_size, HLR.out]; omega
      have HFL : Hid (F.length + row.length ≤ 1048576) := by show _ ≤ _; rw [HLR.out]; omega
      by_cases hjq : j = q
      · have t : ((j : Int) == (q : Int)) = true := by simp; omega
        have KW := Lib.hid (bg_torn F row n.toNat HFL.out)
        clear hjq
        go_wp2_with fail
        refine (disk_tear w.heap.size R b _ n _ HD.out.dsk).mono ?_
        rintro e x2 ⟨rfl, hd2, hg2⟩
        have H2 : Hid (DW w x2 R b ⟨F, 1048576, false, true, n.toNat⟩) := HD.out.done hd2 hg2
        have hcr2 : x2.cell? ⟨gb, go + j, none⟩ = some (.slice ra l rc) := cell_later H2.out.bel HCL.out
        have hs2 := str_at (HROW.out.below H2.out.bel) HLR.out
        clear hd2 hg2 HD hcr
        go_wp2_with fail
        refine (disk_append w.heap.size R b ⟨F, 1048576, false, true, n.toNat⟩ ra rc l row _ H2.out.dsk HLR.out (HROW.out.below H2.out.bel) HFAR.out).mono ?_
        rw [KW.out]
        rintro e x3 ⟨rfl, b3, hd3, hg3, _⟩
        have HZ := Lib.hid (H2.out.wrote hd3 hg3)
        have hx : (strB F ++ strB row).extract 0 (F ++ row.take (min n.toNat row.length)).length = strB (F ++ row.take (min n.toNat row.length)) := by
          rw [← strB_app, strB_take, take_begin F row _ (by omega)]
        have hy : (strB (F ++ row.take (min n.toNat row.length))).size = (F ++ row.take (min n.toNat row.length)).length := strB_size _
        have hA : (strB F ++ strB row).size = F.length + l := by rw [← strB_app, strB_size, List.length_append, HLR.out]
        have hyF : (strB F).size = F.length := strB_size F
        have h1 : F.length ≤ (F ++ row.take (min n.toNat row.length)).length := by rw [List.length_append]; omega
        have h2 : (F ++ row.take (min n.toNat row.length)).length ≤ F.length + l := by rw [List.length_append, List.length_take, HLR.out]; omega
        clear hd3 hg3 H2 hs2 hcr2 KW hZF HZF
        generalize (F ++ row.take (min n.toNat row.length)) = X at *
        generalize strB F ++ strB row = SA at *
        generalize strB F = SF at *
        generalize hLX : X.length = lx at *
        generalize hLF : F.length = lf at *
        have hlf : lf ≤ 6000 := by omega
        have e1 : decide ((lf : Int) ≤ (lx : Int)) = true := by simp; omega
        have e1' : decide (lf ≤ lx) = true := by simp; omega
        have e2 : decide ((lx : Int) ≤ (lf : Int) + (l : Int)) = true := by simp; omega
        have e2' : decide (lx ≤ lf + l) = true := by simp; omega
        have HLX := Lib.hid hLX
        clear hLX hLF
        go_wp2_with fail
        refine (disk_crash w.heap.size R b3 _ _ HZ.out.dsk).mono ?_
        rintro e y1 ⟨rfl, hd1, hg1⟩
        have Y1 := Lib.hid (HZ.out.done hd1 hg1)
        clear hd1 hg1
        go_wp2_with fail
        refine (disk_start w.heap.size R b3 _ _ Y1.out.dsk).mono ?_
        rintro e y2 ⟨rfl, hd2, hg2⟩
        have Y2 := Lib.hid (Y1.out.done hd2 hg2)
        clear hd2 hg2
        go_wp2_with fail
        refine (disk_read_on w.heap.size R b3 _ _ Y2.out.dsk rfl).mono ?_
        rintro e y3 ⟨a3, c3, rfl, hs3, _, hb3⟩
        have Y3 := Lib.hid (Y2.out.below hb3).bel
        have hstr := str_at hs3 HLX.out
        dsimp only at hstr ⊢
        rw [HLX.out]
        clear hs3 hb3
        go_wp2_with fail
        refine (awake8 _).mono ?_
        rintro e y4 ⟨rfl, hb4⟩
        have Y4 := Lib.hid (Y3.out.trans (hb4.mono Y3.out.size))
        clear hb4 hstr
        go_wp2
        go_ret
        exact ⟨rfl, Y4.out⟩
      · have t : ((j : Int) == (q : Int)) = false := by simp; omega
        have hs0 := str_at (HROW.out.below HD.out.bel) HLR.out
        have KW := Lib.hid (bg_fits F row HFL.out)
        go_wp2_with fail
        refine (disk_append w.heap.size R b ⟨F, 1048576, false, false, 0⟩ ra rc l row _ HD.out.dsk HLR.out (HROW.out.below HD.out.bel) HFAR.out).mono ?_
        rw [KW.out]
        rintro e x3 ⟨rfl, b3, hd3, hg3, _⟩
        have H3 : Hid (DW w x3 R b3 ⟨F ++ row, 1048576, false, false, 0⟩) := HD.out.wrote hd3 hg3
        have hcr3 : x3.cell? ⟨gb, go + j, none⟩ = some (.slice ra l rc) := cell_later H3.out.bel HCL.out
        have hs3 := str_at (HROW.out.below H3.out.bel) HLR.out
        have HFA : Hid ((F ++ row).length ≤ 200 * (j + 1)) := by show _ ≤ _; rw [List.length_append, HLR.out]; omega
        have HSX : Hid (strB (F ++ row) = strB F ++ strB row) := strB_app F row
        clear hd3 hg3 hs0 hcr HD
        go_wp2
        go_roundw
        case rel => exact ⟨j + 1, b3, F ++ row, by omega, by omega, HFA.out, by rw [HSX.out], by rw [HSX.out], by go_num, H3⟩
        case measure => simp [intOf]; omega
    · have HZ := HD
      have hx : (strB F).extract 0 F.length = strB F := by rw [strB_take, List.take_length]
      have hy : (strB F).size = F.length := strB_size F
      have hFm : F.length ≤ 6000 := by omega
      have t : decide ((j : Int) < (len0 : Int)) = false ∧ decide (j < len0) = false ∨ decide ((j : Int) < (len0 : Int)) = true ∧ decide (j < len0) = true ∧ decide ((j : Int) < 30) = false := by simp; omega
      rcases t with ⟨t1, t2⟩ | ⟨t1, t2, t3⟩
      · skip
        go_wp2_with fail
        refine (disk_crash w.heap.size R b _ _ HZ.out.dsk).mono ?_
        rintro e y1 ⟨rfl, hd1, hg1⟩
        have Y1 := Lib.hid (HZ.out.done hd1 hg1)
        clear hd1 hg1
        go_wp2_with fail
        refine (disk_start w.heap.size R b _ _ Y1.out.dsk).mono ?_
        rintro e y2 ⟨rfl, hd2, hg2⟩
        have Y2 := Lib.hid (Y1.out.done hd2 hg2)
        clear hd2 hg2
        go_wp2_with fail
        refine (disk_read_on w.heap.size R b _ _ Y2.out.dsk rfl).mono ?_
        rintro e y3 ⟨a3, c3, rfl, hs3, _, hb3⟩
        have Y3 := Lib.hid (Y2.out.below hb3).bel
        have hstr := str_of hs3
        dsimp only at hstr ⊢
        clear hs3 hb3
        go_wp2_with fail
        refine (awake8 _).mono ?_
        rintro e y4 ⟨rfl, hb4⟩
        have Y4 := Lib.hid (Y3.out.trans (hb4.mono Y3.out.size))
        clear hb4 hstr
        go_wp2
        go_ret
        exact ⟨rfl, Y4.out⟩
      · skip
        go_wp2_with fail
        refine (disk_crash w.heap.size R b _ _ HZ.out.dsk).mono ?_
        rintro e y1 ⟨rfl, hd1, hg1⟩
        have Y1 := Lib.hid (HZ.out.done hd1 hg1)
        clear hd1 hg1
        go_wp2_with fail
        refine (disk_start w.heap.size R b _ _ Y1.out.dsk).mono ?_
        rintro e y2 ⟨rfl, hd2, hg2⟩
        have Y2 := Lib.hid (Y1.out.done hd2 hg2)
        clear hd2 hg2
        go_wp2_with fail
        refine (disk_read_on w.heap.size R b _ _ Y2.out.dsk rfl).mono ?_
        rintro e y3 ⟨a3, c3, rfl, hs3, _, hb3⟩
        have Y3 := Lib.hid (Y2.out.below hb3).bel
        have hstr := str_of hs3
        dsimp only at hstr ⊢
        clear hs3 hb3
        go_wp2_with fail
        refine (awake8 _).mono ?_
        rintro e y4 ⟨rfl, hb4⟩
        have Y4 := Lib.hid (Y3.out.trans (hb4.mono Y3.out.size))
        clear hb4 hstr
        go_wp2
        go_ret
        exact ⟨rfl, Y4.out⟩

end Go.Proofs.Ytfkknggjnbjnjaa
