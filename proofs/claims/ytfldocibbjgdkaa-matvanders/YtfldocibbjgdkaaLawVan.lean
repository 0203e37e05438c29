/-
  The walk of the law MatVanders.
-/
import Derived.Test.YtfldocibbjgdkaaAwake2
namespace Go.Proofs.Ytfldocibbjgdkaa
open Go.RowKit



set_option maxRecDepth 100000 in
set_option maxHeartbeats 4000000 in
theorem matVanders_low (a b : Int) (w : World) (h : a < 1) :
    Calls Try.prog 5 #[.int .i64 a, .int .i64 b] w fun e w' => e = .returned (.bool true) ∧ Below w.heap.size w w' := by
  have hd1 : decide ((40 : Int) < a) = false := by simp; omega
  have hd2 : decide (a < 1) = true := by simpa using h
  by_cases hb : 40 < b
  · have hd3 : decide ((40 : Int) < b) = true := by simpa using hb
    by_cases hb2 : b ≤ 256
    · have hd4 : decide (b ≤ 256) = true := by simpa using hb2
      go_enter Try.func5, Try.ntmps5
      go_wp2_with fail
      refine (vander_none _ 40 _ (by omega)).mono ?_
      rintro e w' ⟨rfl, rfl⟩
      go_wp2_with fail
      refine (one_none _ _ (by omega)).mono ?_
      rintro e w' ⟨rfl, rfl⟩
      go_wp2_with fail
      refine (awake_any _).mono ?_
      rintro e w1 ⟨rfl, hb1⟩
      go_wp2
      go_ret
      exact ⟨rfl, hb1⟩
    · have hd4 : decide (b ≤ 256) = false := by simpa using hb2
      go_enter Try.func5, Try.ntmps5
      go_wp2_with fail
      refine (vander_none _ b _ (by omega)).mono ?_
      rintro e w' ⟨rfl, rfl⟩
      go_wp2_with fail
      refine (one_none _ _ (by omega)).mono ?_
      rintro e w' ⟨rfl, rfl⟩
      go_wp2_with fail
      refine (awake_any _).mono ?_
      rintro e w1 ⟨rfl, hb1⟩
      go_wp2
      go_ret
      exact ⟨rfl, hb1⟩
  · have hd3 : decide ((40 : Int) < b) = false := by simpa using hb
    go_enter Try.func5, Try.ntmps5
    go_wp2_with fail
    refine (vander_none _ b _ (by omega)).mono ?_
    rintro e w' ⟨rfl, rfl⟩
    go_wp2_with fail
    refine (one_none _ _ (by omega)).mono ?_
    rintro e w' ⟨rfl, rfl⟩
    go_wp2_with fail
    refine (awake_any _).mono ?_
    rintro e w1 ⟨rfl, hb1⟩
    go_wp2
    go_ret
    exact ⟨rfl, hb1⟩

set_option maxRecDepth 100000 in
set_option maxHeartbeats 4000000 in
theorem matVanders_high (a b : Int) (w : World) (h : 256 < a) :
    Calls Try.prog 5 #[.int .i64 a, .int .i64 b] w fun e w' => e = .returned (.bool true) ∧ Below w.heap.size w w' := by
  have hd1 : decide ((40 : Int) < a) = true := by simp; omega
  have hd2 : decide (a ≤ 256) = false := by simp; omega
  have hd5 : decide (a < 1) = false := by simp; omega
  have hd6 : decide ((256 : Int) < a) = true := by simpa using h
  by_cases hb : 40 < b
  · have hd3 : decide ((40 : Int) < b) = true := by simpa using hb
    by_cases hb2 : b ≤ 256
    · have hd4 : decide (b ≤ 256) = true := by simpa using hb2
      go_enter Try.func5, Try.ntmps5
      go_wp2_with fail
      refine (vander_none _ 40 _ (by omega)).mono ?_
      rintro e w' ⟨rfl, rfl⟩
      go_wp2_with fail
      refine (one_none _ _ (by omega)).mono ?_
      rintro e w' ⟨rfl, rfl⟩
      go_wp2_with fail
      refine (awake_any _).mono ?_
      rintro e w1 ⟨rfl, hb1⟩
      go_wp2
      go_ret
      exact ⟨rfl, hb1⟩
    · have hd4 : decide (b ≤ 256) = false := by simpa using hb2
      go_enter Try.func5, Try.ntmps5
      go_wp2_with fail
      refine (vander_none _ b _ (by omega)).mono ?_
      rintro e w' ⟨rfl, rfl⟩
      go_wp2_with fail
      refine (one_none _ _ (by omega)).mono ?_
      rintro e w' ⟨rfl, rfl⟩
      go_wp2_with fail
      refine (awake_any _).mono ?_
      rintro e w1 ⟨rfl, hb1⟩
      go_wp2
      go_ret
      exact ⟨rfl, hb1⟩
  · have hd3 : decide ((40 : Int) < b) = false := by simpa using hb
    go_enter Try.func5, Try.ntmps5
    go_wp2_with fail
    refine (vander_none _ b _ (by omega)).mono ?_
    rintro e w' ⟨rfl, rfl⟩
    go_wp2_with fail
    refine (one_none _ _ (by omega)).mono ?_
    rintro e w' ⟨rfl, rfl⟩
    go_wp2_with fail
    refine (awake_any _).mono ?_
    rintro e w1 ⟨rfl, hb1⟩
    go_wp2
    go_ret
    exact ⟨rfl, hb1⟩





set_option maxRecDepth 100000 in
set_option maxHeartbeats 4000000 in
theorem matVanders_small (n : Nat) (b : Int) (w : World) (h1 : 1 ≤ n) (h2 : n ≤ 40) :
    Calls Try.prog 5 #[.int .i64 (n : Int), .int .i64 b] w fun e w' => e = .returned (.bool true) ∧ Below w.heap.size w w' := by
  have hd1 : decide ((40 : Int) < (n : Int)) = false := by simp; omega
  have hd2 : decide ((n : Int) < 1) = false := by simp; omega
  have hd7 : decide ((256 : Int) < (n : Int)) = false := by simp; omega
  by_cases h1 : b < 1
  · have hd3 : decide ((40 : Int) < b) = false := by simp; omega
    have hd4 : decide (b < 1) = true := by simpa using h1
    go_enter Try.func5, Try.ntmps5
    go_wp2_with fail
    refine (vander_none _ b _ (by omega)).mono ?_
    rintro e w' ⟨rfl, rfl⟩
    have HB1 := Lib.hid (Below.refl w.heap.size w)
    go_wp2_with fail
    refine (one_any n _ (by omega) (by omega)).mono ?_
    rintro e w2 ⟨_, G2, C2, g2, c2, rfl, hO2, hb2⟩
    have HO2 := Lib.hid hO2
    have HB2 := Lib.hid (HB1.out.trans (hb2.mono HB1.out.size))
    have HBB := Lib.hid hb2
    clear hO2 hb2
    go_wp2_with fail
    refine (rone_any n _ (by omega)).mono ?_
    rintro e w3 ⟨_, G3, C3, g3, c3, rfl, hO3, hb3⟩
    have HO3 := Lib.hid hO3
    have HO2' := Lib.hid (HO2.out.gridAt.below hb3)
    have HB3 := Lib.hid (HB2.out.trans (hb3.mono HB2.out.size))
    have HBC := Lib.hid (HBB.out.trans (hb3.mono HBB.out.size))
    clear hO3 hb3
    go_wp2_with fail
    refine (same_at _ _ _ _ _ _ (ident n) (roneK n n) _ HO2'.out HO3.out.gridAt (ident_eq n) (idK_len n n) (roneK_len n n)).mono ?_
    rintro e w4 ⟨rfl, hb4⟩
    have HB4 := Lib.hid (HB3.out.trans (hb4.mono HB3.out.size))
    have HBD := Lib.hid (HBC.out.trans (hb4.mono HBC.out.size))
    clear hb4
    go_wp2_with fail
    refine (awake_any _).mono ?_
    rintro e w5 ⟨rfl, hb5⟩
    have HB5 := Lib.hid (HB4.out.trans (hb5.mono HB4.out.size))
    have HBE := Lib.hid (HBD.out.trans (hb5.mono HBD.out.size))
    clear hb5
    go_wp2
    go_ret
    exact ⟨rfl, HB5.out⟩
  · by_cases h2 : 256 < b
    · have hd3 : decide ((40 : Int) < b) = true := by simp; omega
      have hd4 : decide (b ≤ 256) = false := by simp; omega
      have hd5 : decide (b < 1) = false := by simpa using h1
      have hd6 : decide ((256 : Int) < b) = true := by simpa using h2
      go_enter Try.func5, Try.ntmps5
      go_wp2_with fail
      refine (vander_none _ b _ (by omega)).mono ?_
      rintro e w' ⟨rfl, rfl⟩
      have HB1 := Lib.hid (Below.refl w.heap.size w)
      go_wp2_with fail
      refine (one_any n _ (by omega) (by omega)).mono ?_
      rintro e w2 ⟨_, G2, C2, g2, c2, rfl, hO2, hb2⟩
      have HO2 := Lib.hid hO2
      have HB2 := Lib.hid (HB1.out.trans (hb2.mono HB1.out.size))
      have HBB := Lib.hid hb2
      clear hO2 hb2
      go_wp2_with fail
      refine (rone_any n _ (by omega)).mono ?_
      rintro e w3 ⟨_, G3, C3, g3, c3, rfl, hO3, hb3⟩
      have HO3 := Lib.hid hO3
      have HO2' := Lib.hid (HO2.out.gridAt.below hb3)
      have HB3 := Lib.hid (HB2.out.trans (hb3.mono HB2.out.size))
      have HBC := Lib.hid (HBB.out.trans (hb3.mono HBB.out.size))
      clear hO3 hb3
      go_wp2_with fail
      refine (same_at _ _ _ _ _ _ (ident n) (roneK n n) _ HO2'.out HO3.out.gridAt (ident_eq n) (idK_len n n) (roneK_len n n)).mono ?_
      rintro e w4 ⟨rfl, hb4⟩
      have HB4 := Lib.hid (HB3.out.trans (hb4.mono HB3.out.size))
      have HBD := Lib.hid (HBC.out.trans (hb4.mono HBC.out.size))
      clear hb4
      go_wp2_with fail
      refine (awake_any _).mono ?_
      rintro e w5 ⟨rfl, hb5⟩
      have HB5 := Lib.hid (HB4.out.trans (hb5.mono HB4.out.size))
      have HBE := Lib.hid (HBD.out.trans (hb5.mono HBD.out.size))
      clear hb5
      go_wp2
      go_ret
      exact ⟨rfl, HB5.out⟩
    · by_cases h3 : 40 < b
      · have hd3 : decide ((40 : Int) < b) = true := by simp; omega
        have hd4 : decide (b ≤ 256) = true := by simp; omega
        go_enter Try.func5, Try.ntmps5
        go_wp2_with fail
        refine (vander_any n 40 _ (by omega) (by omega) (by omega) (by omega)).mono ?_
        rintro e w1 ⟨_, G1, C1, g1, c1, rfl, hO1, hb1⟩
        have HO1 := Lib.hid hO1
        have HB1 := Lib.hid hb1
        clear hO1 hb1
        go_wp2_with fail
        refine (one_any n _ (by omega) (by omega)).mono ?_
        rintro e w2 ⟨_, G2, C2, g2, c2, rfl, hO2, hb2⟩
        have HO2 := Lib.hid hO2
        have HB2 := Lib.hid (HB1.out.trans (hb2.mono HB1.out.size))
        have HBB := Lib.hid hb2
        clear hO2 hb2
        go_wp2_with fail
        refine (rone_any n _ (by omega)).mono ?_
        rintro e w3 ⟨_, G3, C3, g3, c3, rfl, hO3, hb3⟩
        have HO3 := Lib.hid hO3
        have HO2' := Lib.hid (HO2.out.gridAt.below hb3)
        have HB3 := Lib.hid (HB2.out.trans (hb3.mono HB2.out.size))
        have HBC := Lib.hid (HBB.out.trans (hb3.mono HBB.out.size))
        clear hO3 hb3
        go_wp2_with fail
        refine (same_at _ _ _ _ _ _ (ident n) (roneK n n) _ HO2'.out HO3.out.gridAt (ident_eq n) (idK_len n n) (roneK_len n n)).mono ?_
        rintro e w4 ⟨rfl, hb4⟩
        have HB4 := Lib.hid (HB3.out.trans (hb4.mono HB3.out.size))
        have HBD := Lib.hid (HBC.out.trans (hb4.mono HBC.out.size))
        clear hb4
        go_wp2_with fail
        refine (awake_any _).mono ?_
        rintro e w5 ⟨rfl, hb5⟩
        have HB5 := Lib.hid (HB4.out.trans (hb5.mono HB4.out.size))
        have HBE := Lib.hid (HBD.out.trans (hb5.mono HBD.out.size))
        clear hb5
        have HG5 := Lib.hid (HO1.out.gridAt.below HBE.out)
        go_wp2_with fail
        refine (rvan_any n 40 _ (by omega) (by omega)).mono ?_
        rintro e w6 ⟨_, G6, C6, g6, c6, rfl, hO6, hb6⟩
        have HO6 := Lib.hid hO6
        have HG6 := Lib.hid (HG5.out.below hb6)
        have HB6 := Lib.hid (HB5.out.trans (hb6.mono HB5.out.size))
        clear hO6 hb6
        go_wp2_with fail
        refine (same_at _ _ _ _ _ _ (vanK 40 n) (vanK 40 n) _ HG6.out HO6.out.gridAt rfl (vanK_len 40 n) (vanK_len 40 n)).mono ?_
        rintro e w7 ⟨rfl, hb7⟩
        go_wp2
        go_ret
        exact ⟨rfl, HB6.out.trans (hb7.mono HB6.out.size)⟩
      · obtain ⟨k, rfl⟩ : ∃ k : Nat, b = (k : Int) := ⟨b.toNat, by omega⟩
        have hd3 : decide ((40 : Int) < (k : Int)) = false := by simp; omega
        have hd5 : decide ((k : Int) < 1) = false := by simp; omega
        have hd6 : decide ((256 : Int) < (k : Int)) = false := by simp; omega
        go_enter Try.func5, Try.ntmps5
        go_wp2_with fail
        refine (vander_any n k _ (by omega) (by omega) (by omega) (by omega)).mono ?_
        rintro e w1 ⟨_, G1, C1, g1, c1, rfl, hO1, hb1⟩
        have HO1 := Lib.hid hO1
        have HB1 := Lib.hid hb1
        clear hO1 hb1
        go_wp2_with fail
        refine (one_any n _ (by omega) (by omega)).mono ?_
        rintro e w2 ⟨_, G2, C2, g2, c2, rfl, hO2, hb2⟩
        have HO2 := Lib.hid hO2
        have HB2 := Lib.hid (HB1.out.trans (hb2.mono HB1.out.size))
        have HBB := Lib.hid hb2
        clear hO2 hb2
        go_wp2_with fail
        refine (rone_any n _ (by omega)).mono ?_
        rintro e w3 ⟨_, G3, C3, g3, c3, rfl, hO3, hb3⟩
        have HO3 := Lib.hid hO3
        have HO2' := Lib.hid (HO2.out.gridAt.below hb3)
        have HB3 := Lib.hid (HB2.out.trans (hb3.mono HB2.out.size))
        have HBC := Lib.hid (HBB.out.trans (hb3.mono HBB.out.size))
        clear hO3 hb3
        go_wp2_with fail
        refine (same_at _ _ _ _ _ _ (ident n) (roneK n n) _ HO2'.out HO3.out.gridAt (ident_eq n) (idK_len n n) (roneK_len n n)).mono ?_
        rintro e w4 ⟨rfl, hb4⟩
        have HB4 := Lib.hid (HB3.out.trans (hb4.mono HB3.out.size))
        have HBD := Lib.hid (HBC.out.trans (hb4.mono HBC.out.size))
        clear hb4
        go_wp2_with fail
        refine (awake_any _).mono ?_
        rintro e w5 ⟨rfl, hb5⟩
        have HB5 := Lib.hid (HB4.out.trans (hb5.mono HB4.out.size))
        have HBE := Lib.hid (HBD.out.trans (hb5.mono HBD.out.size))
        clear hb5
        have HG5 := Lib.hid (HO1.out.gridAt.below HBE.out)
        go_wp2_with fail
        refine (rvan_any n k _ (by omega) (by omega)).mono ?_
        rintro e w6 ⟨_, G6, C6, g6, c6, rfl, hO6, hb6⟩
        have HO6 := Lib.hid hO6
        have HG6 := Lib.hid (HG5.out.below hb6)
        have HB6 := Lib.hid (HB5.out.trans (hb6.mono HB5.out.size))
        clear hO6 hb6
        go_wp2_with fail
        refine (same_at _ _ _ _ _ _ (vanK k n) (vanK k n) _ HG6.out HO6.out.gridAt rfl (vanK_len k n) (vanK_len k n)).mono ?_
        rintro e w7 ⟨rfl, hb7⟩
        go_wp2
        go_ret
        exact ⟨rfl, HB6.out.trans (hb7.mono HB6.out.size)⟩

set_option maxRecDepth 100000 in
set_option maxHeartbeats 4000000 in
theorem matVanders_mid (a b : Int) (w : World) (h1 : 40 < a) (h2 : a ≤ 256) :
    Calls Try.prog 5 #[.int .i64 a, .int .i64 b] w fun e w' => e = .returned (.bool true) ∧ Below w.heap.size w w' := by
  have hd1 : decide ((40 : Int) < a) = true := by simpa using h1
  have hd2 : decide (a ≤ 256) = true := by simpa using h2
  by_cases h1 : b < 1
  · have hd3 : decide ((40 : Int) < b) = false := by simp; omega
    have hd4 : decide (b < 1) = true := by simpa using h1
    go_enter Try.func5, Try.ntmps5
    go_wp2_with fail
    refine (vander_none _ b _ (by omega)).mono ?_
    rintro e w' ⟨rfl, rfl⟩
    have HB1 := Lib.hid (Below.refl w.heap.size w)
    go_wp2_with fail
    refine (one_any 40 _ (by omega) (by omega)).mono ?_
    rintro e w2 ⟨_, G2, C2, g2, c2, rfl, hO2, hb2⟩
    have HO2 := Lib.hid hO2
    have HB2 := Lib.hid (HB1.out.trans (hb2.mono HB1.out.size))
    have HBB := Lib.hid hb2
    clear hO2 hb2
    go_wp2_with fail
    refine (rone_any 40 _ (by omega)).mono ?_
    rintro e w3 ⟨_, G3, C3, g3, c3, rfl, hO3, hb3⟩
    have HO3 := Lib.hid hO3
    have HO2' := Lib.hid (HO2.out.gridAt.below hb3)
    have HB3 := Lib.hid (HB2.out.trans (hb3.mono HB2.out.size))
    have HBC := Lib.hid (HBB.out.trans (hb3.mono HBB.out.size))
    clear hO3 hb3
    go_wp2_with fail
    refine (same_at _ _ _ _ _ _ (ident 40) (roneK 40 40) _ HO2'.out HO3.out.gridAt (ident_eq 40) (idK_len 40 40) (roneK_len 40 40)).mono ?_
    rintro e w4 ⟨rfl, hb4⟩
    have HB4 := Lib.hid (HB3.out.trans (hb4.mono HB3.out.size))
    have HBD := Lib.hid (HBC.out.trans (hb4.mono HBC.out.size))
    clear hb4
    go_wp2_with fail
    refine (awake_any _).mono ?_
    rintro e w5 ⟨rfl, hb5⟩
    have HB5 := Lib.hid (HB4.out.trans (hb5.mono HB4.out.size))
    have HBE := Lib.hid (HBD.out.trans (hb5.mono HBD.out.size))
    clear hb5
    go_wp2
    go_ret
    exact ⟨rfl, HB5.out⟩
  · by_cases h2 : 256 < b
    · have hd3 : decide ((40 : Int) < b) = true := by simp; omega
      have hd4 : decide (b ≤ 256) = false := by simp; omega
      have hd5 : decide (b < 1) = false := by simpa using h1
      have hd6 : decide ((256 : Int) < b) = true := by simpa using h2
      go_enter Try.func5, Try.ntmps5
      go_wp2_with fail
      refine (vander_none _ b _ (by omega)).mono ?_
      rintro e w' ⟨rfl, rfl⟩
      have HB1 := Lib.hid (Below.refl w.heap.size w)
      go_wp2_with fail
      refine (one_any 40 _ (by omega) (by omega)).mono ?_
      rintro e w2 ⟨_, G2, C2, g2, c2, rfl, hO2, hb2⟩
      have HO2 := Lib.hid hO2
      have HB2 := Lib.hid (HB1.out.trans (hb2.mono HB1.out.size))
      have HBB := Lib.hid hb2
      clear hO2 hb2
      go_wp2_with fail
      refine (rone_any 40 _ (by omega)).mono ?_
      rintro e w3 ⟨_, G3, C3, g3, c3, rfl, hO3, hb3⟩
      have HO3 := Lib.hid hO3
      have HO2' := Lib.hid (HO2.out.gridAt.below hb3)
      have HB3 := Lib.hid (HB2.out.trans (hb3.mono HB2.out.size))
      have HBC := Lib.hid (HBB.out.trans (hb3.mono HBB.out.size))
      clear hO3 hb3
      go_wp2_with fail
      refine (same_at _ _ _ _ _ _ (ident 40) (roneK 40 40) _ HO2'.out HO3.out.gridAt (ident_eq 40) (idK_len 40 40) (roneK_len 40 40)).mono ?_
      rintro e w4 ⟨rfl, hb4⟩
      have HB4 := Lib.hid (HB3.out.trans (hb4.mono HB3.out.size))
      have HBD := Lib.hid (HBC.out.trans (hb4.mono HBC.out.size))
      clear hb4
      go_wp2_with fail
      refine (awake_any _).mono ?_
      rintro e w5 ⟨rfl, hb5⟩
      have HB5 := Lib.hid (HB4.out.trans (hb5.mono HB4.out.size))
      have HBE := Lib.hid (HBD.out.trans (hb5.mono HBD.out.size))
      clear hb5
      go_wp2
      go_ret
      exact ⟨rfl, HB5.out⟩
    · by_cases h3 : 40 < b
      · have hd3 : decide ((40 : Int) < b) = true := by simp; omega
        have hd4 : decide (b ≤ 256) = true := by simp; omega
        go_enter Try.func5, Try.ntmps5
        go_wp2_with fail
        refine (vander_any 40 40 _ (by omega) (by omega) (by omega) (by omega)).mono ?_
        rintro e w1 ⟨_, G1, C1, g1, c1, rfl, hO1, hb1⟩
        have HO1 := Lib.hid hO1
        have HB1 := Lib.hid hb1
        clear hO1 hb1
        go_wp2_with fail
        refine (one_any 40 _ (by omega) (by omega)).mono ?_
        rintro e w2 ⟨_, G2, C2, g2, c2, rfl, hO2, hb2⟩
        have HO2 := Lib.hid hO2
        have HB2 := Lib.hid (HB1.out.trans (hb2.mono HB1.out.size))
        have HBB := Lib.hid hb2
        clear hO2 hb2
        go_wp2_with fail
        refine (rone_any 40 _ (by omega)).mono ?_
        rintro e w3 ⟨_, G3, C3, g3, c3, rfl, hO3, hb3⟩
        have HO3 := Lib.hid hO3
        have HO2' := Lib.hid (HO2.out.gridAt.below hb3)
        have HB3 := Lib.hid (HB2.out.trans (hb3.mono HB2.out.size))
        have HBC := Lib.hid (HBB.out.trans (hb3.mono HBB.out.size))
        clear hO3 hb3
        go_wp2_with fail
        refine (same_at _ _ _ _ _ _ (ident 40) (roneK 40 40) _ HO2'.out HO3.out.gridAt (ident_eq 40) (idK_len 40 40) (roneK_len 40 40)).mono ?_
        rintro e w4 ⟨rfl, hb4⟩
        have HB4 := Lib.hid (HB3.out.trans (hb4.mono HB3.out.size))
        have HBD := Lib.hid (HBC.out.trans (hb4.mono HBC.out.size))
        clear hb4
        go_wp2_with fail
        refine (awake_any _).mono ?_
        rintro e w5 ⟨rfl, hb5⟩
        have HB5 := Lib.hid (HB4.out.trans (hb5.mono HB4.out.size))
        have HBE := Lib.hid (HBD.out.trans (hb5.mono HBD.out.size))
        clear hb5
        have HG5 := Lib.hid (HO1.out.gridAt.below HBE.out)
        go_wp2_with fail
        refine (rvan_any 40 40 _ (by omega) (by omega)).mono ?_
        rintro e w6 ⟨_, G6, C6, g6, c6, rfl, hO6, hb6⟩
        have HO6 := Lib.hid hO6
        have HG6 := Lib.hid (HG5.out.below hb6)
        have HB6 := Lib.hid (HB5.out.trans (hb6.mono HB5.out.size))
        clear hO6 hb6
        go_wp2_with fail
        refine (same_at _ _ _ _ _ _ (vanK 40 40) (vanK 40 40) _ HG6.out HO6.out.gridAt rfl (vanK_len 40 40) (vanK_len 40 40)).mono ?_
        rintro e w7 ⟨rfl, hb7⟩
        go_wp2
        go_ret
        exact ⟨rfl, HB6.out.trans (hb7.mono HB6.out.size)⟩
      · obtain ⟨k, rfl⟩ : ∃ k : Nat, b = (k : Int) := ⟨b.toNat, by omega⟩
        have hd3 : decide ((40 : Int) < (k : Int)) = false := by simp; omega
        have hd5 : decide ((k : Int) < 1) = false := by simp; omega
        have hd6 : decide ((256 : Int) < (k : Int)) = false := by simp; omega
        go_enter Try.func5, Try.ntmps5
        go_wp2_with fail
        refine (vander_any 40 k _ (by omega) (by omega) (by omega) (by omega)).mono ?_
        rintro e w1 ⟨_, G1, C1, g1, c1, rfl, hO1, hb1⟩
        have HO1 := Lib.hid hO1
        have HB1 := Lib.hid hb1
        clear hO1 hb1
        go_wp2_with fail
        refine (one_any 40 _ (by omega) (by omega)).mono ?_
        rintro e w2 ⟨_, G2, C2, g2, c2, rfl, hO2, hb2⟩
        have HO2 := Lib.hid hO2
        have HB2 := Lib.hid (HB1.out.trans (hb2.mono HB1.out.size))
        have HBB := Lib.hid hb2
        clear hO2 hb2
        go_wp2_with fail
        refine (rone_any 40 _ (by omega)).mono ?_
        rintro e w3 ⟨_, G3, C3, g3, c3, rfl, hO3, hb3⟩
        have HO3 := Lib.hid hO3
        have HO2' := Lib.hid (HO2.out.gridAt.below hb3)
        have HB3 := Lib.hid (HB2.out.trans (hb3.mono HB2.out.size))
        have HBC := Lib.hid (HBB.out.trans (hb3.mono HBB.out.size))
        clear hO3 hb3
        go_wp2_with fail
        refine (same_at _ _ _ _ _ _ (ident 40) (roneK 40 40) _ HO2'.out HO3.out.gridAt (ident_eq 40) (idK_len 40 40) (roneK_len 40 40)).mono ?_
        rintro e w4 ⟨rfl, hb4⟩
        have HB4 := Lib.hid (HB3.out.trans (hb4.mono HB3.out.size))
        have HBD := Lib.hid (HBC.out.trans (hb4.mono HBC.out.size))
        clear hb4
        go_wp2_with fail
        refine (awake_any _).mono ?_
        rintro e w5 ⟨rfl, hb5⟩
        have HB5 := Lib.hid (HB4.out.trans (hb5.mono HB4.out.size))
        have HBE := Lib.hid (HBD.out.trans (hb5.mono HBD.out.size))
        clear hb5
        have HG5 := Lib.hid (HO1.out.gridAt.below HBE.out)
        go_wp2_with fail
        refine (rvan_any 40 k _ (by omega) (by omega)).mono ?_
        rintro e w6 ⟨_, G6, C6, g6, c6, rfl, hO6, hb6⟩
        have HO6 := Lib.hid hO6
        have HG6 := Lib.hid (HG5.out.below hb6)
        have HB6 := Lib.hid (HB5.out.trans (hb6.mono HB5.out.size))
        clear hO6 hb6
        go_wp2_with fail
        refine (same_at _ _ _ _ _ _ (vanK k 40) (vanK k 40) _ HG6.out HO6.out.gridAt rfl (vanK_len k 40) (vanK_len k 40)).mono ?_
        rintro e w7 ⟨rfl, hb7⟩
        go_wp2
        go_ret
        exact ⟨rfl, HB6.out.trans (hb7.mono HB6.out.size)⟩

theorem matVanders_walk (a0 a1 : Int) (_ : (Lit.int .i64 a0).wf = true) (_ : (Lit.int .i64 a1).wf = true) (w : World) :
    Calls Try.prog 5 #[.int .i64 a0, .int .i64 a1] w fun e w' => e = .returned (.bool true) ∧ Below w.heap.size w w' := by
  by_cases h1 : a0 < 1
  · exact matVanders_low a0 a1 w h1
  · by_cases h2 : 256 < a0
    · exact matVanders_high a0 a1 w h2
    · by_cases h3 : 40 < a0
      · exact matVanders_mid a0 a1 w h3 (by omega)
      · obtain ⟨n, rfl⟩ : ∃ n : Nat, a0 = (n : Int) := ⟨a0.toNat, by omega⟩
        exact matVanders_small n a1 w (by omega) (by omega)

end Go.Proofs.Ytfldocibbjgdkaa
