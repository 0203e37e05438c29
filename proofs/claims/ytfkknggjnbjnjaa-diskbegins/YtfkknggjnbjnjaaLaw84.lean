/-
  The walk of the law DiskTears.
-/
import Derived.Test.YtfkknggjnbjnjaaAwake8
import Derived.Deep.DeepCutAuto
namespace Go.Proofs.Ytfkknggjnbjnjaa
open Go.RowKit

/-- What a torn write leaves. -/
def tornTo (m0 m1 : List Nat) (N : Nat) (rep : Bool) : List Nat := if m1.length ≤ N then (if rep then [] else m0) ++ m1 else if rep then m0 else m0 ++ m1.take N

theorem tornTo_len (m0 m1 : List Nat) (N : Nat) (rep : Bool) : (tornTo m0 m1 N rep).length ≤ m0.length + m1.length := by
  unfold tornTo
  split
  · cases rep <;> simp
  · cases rep <;> simp <;> omega

theorem tornTo_app (m0 m1 : List Nat) (N : Nat) : tornTo m0 m1 N false = m0 ++ m1.take (min N m1.length) := by
  unfold tornTo
  by_cases h : m1.length ≤ N
  · rw [if_pos h, Nat.min_eq_right h, List.take_length]; rfl
  · rw [if_neg h, Nat.min_eq_left (by omega)]; rfl

theorem tornTo_rep (m0 m1 : List Nat) (N : Nat) : tornTo m0 m1 N true = if min N m1.length = m1.length then m1 else m0 := by
  unfold tornTo
  by_cases h : m1.length ≤ N
  · rw [if_pos h, Nat.min_eq_right h]; simp
  · rw [if_neg h, Nat.min_eq_left (by omega), if_neg (c := N = m1.length) (by omega)]; rfl

theorem ta_first (m0 : List Nat) (h : m0.length ≤ 300) : wrt ⟨[], 1000, false, false, 0⟩ m0 false = (0, ⟨m0, 1000, false, false, 0⟩) := by
  unfold wrt
  rw [if_neg (by simp), if_neg (by simp; omega), if_neg (by simp)]
  rfl

theorem ta_torn (m0 m1 : List Nat) (N : Nat) (rep : Bool) (h0 : m0.length ≤ 300) (h1 : m1.length ≤ 300) : wrt ⟨m0, 1000, false, true, N⟩ m1 rep = (6, ⟨tornTo m0 m1 N rep, 1000, true, true, N⟩) := by
  unfold wrt
  rw [if_neg (by simp), if_neg (by cases rep <;> simp <;> omega), if_pos rfl]
  rfl

theorem ta_down (X m1 : List Nat) (N : Nat) : wrt ⟨X, 1000, true, true, N⟩ m1 false = (6, ⟨X, 1000, true, true, N⟩) := by
  unfold wrt
  rw [if_pos rfl]

theorem ta_last (X : List Nat) (N : Nat) (h : X.length ≤ 1000) : wrt ⟨X, 1000, false, false, N⟩ [] false = (0, ⟨X, 1000, false, false, N⟩) := by
  unfold wrt
  rw [if_neg (by simp), if_neg (by simp; omega), if_neg (by simp)]
  simp



set_option maxRecDepth 100000 in
set_option maxHeartbeats 4000000 in
theorem diskTears_app (a0 : Option Addr) (len0 cap0 : Nat) (m0 : List Nat) (a1 : Option Addr) (len1 cap1 : Nat) (m1 : List Nat) (n : Int) (w : World) (w0 : m0.length = len0 ∧ SeenAt w a0 cap0 m0) (w1 : m1.length = len1 ∧ SeenAt w a1 cap1 m1) (h0 : len0 ≤ 300) (h1 : len1 ≤ 300) :
    Calls Try.prog 6 #[.slice a0 len0 cap0, .slice a1 len1 cap1, .int .i64 n, .bool false] w fun e w' => e = .returned (.bool true) ∧ Below w.heap.size w w' := by
  have KA := Lib.hid (ta_first m0 (by rw [w0.1]; exact h0))
  have KB := Lib.hid (ta_torn m0 m1 n.toNat false (by rw [w0.1]; exact h0) (by rw [w1.1]; exact h1))
  have HXL : Hid ((tornTo m0 m1 n.toNat false).length ≤ 1000) := by have := tornTo_len m0 m1 n.toNat false; rw [w0.1, w1.1] at this; show _ ≤ _; omega
  have HXX : Hid (tornTo m0 m1 n.toNat false = tornTo m0 m1 n.toNat false) := rfl
  generalize hX : tornTo m0 m1 n.toNat false = X at KB HXL
  have HX := Lib.hid hX
  have hc1 : len1 ≤ cap1 := by have := w1.1; have := w1.2.le; omega
  have HL0 := Lib.hid w0.1
  have HS0 := Lib.hid w0.2
  have HL1 := Lib.hid w1.1
  have HS1 := Lib.hid w1.2
  have d0 : decide ((300 : Int) < (len0 : Int)) = false := by simp; omega
  have d1 : decide ((300 : Int) < (len1 : Int)) = false := by simp; omega
  clear w0 w1 hX HXX
  go_enter Try.func6, Try.ntmps6
  go_wp2_with fail
  refine (disk_new 1000 _).mono ?_
  rintro e x1 ⟨R, rfl, -, hd1, hb1⟩
  rw [show roomOf 1000 = 1000 by decide] at hd1
  have H1 : Hid (DW w x1 R none ⟨[], 1000, false, false, 0⟩) := ⟨hd1, hb1⟩
  clear hd1 hb1
  go_wp2_with fail
  refine (disk_append w.heap.size R none ⟨[], 1000, false, false, 0⟩ a0 cap0 len0 m0 _ H1.out.dsk HL0.out (HS0.out.below H1.out.bel) (fun hb => H1.out.far HS0.out hb)).mono ?_
  rw [KA.out]
  rintro e x2 ⟨rfl, b2, hd2, hg2, _⟩
  have H2 : Hid (DW w x2 R b2 ⟨m0, 1000, false, false, 0⟩) := H1.out.wrote hd2 hg2
  clear hd2 hg2
  go_wp2_with fail
  refine (disk_tear w.heap.size R b2 _ n _ H2.out.dsk).mono ?_
  rintro e x3 ⟨rfl, hd3, hg3⟩
  have H3 : Hid (DW w x3 R b2 ⟨m0, 1000, false, true, n.toNat⟩) := H2.out.done hd3 hg3
  clear hd3 hg3
  go_wp2_with fail
  refine (disk_append w.heap.size R b2 ⟨m0, 1000, false, true, n.toNat⟩ a1 cap1 len1 m1 _ H3.out.dsk HL1.out (HS1.out.below H3.out.bel) (fun hb => H3.out.far HS1.out hb)).mono ?_
  rw [KB.out]
  rintro e x4 ⟨rfl, b4, hd4, hg4, _⟩
  have H4 : Hid (DW w x4 R b4 ⟨X, 1000, true, true, n.toNat⟩) := H3.out.wrote hd4 hg4
  clear hd4 hg4
  go_wp2_with fail
  refine (disk_up w.heap.size R b4 _ _ H4.out.dsk).mono ?_
  rintro e w' ⟨rfl, rfl⟩
  go_wp2_with fail
  refine (disk_append w.heap.size R b4 ⟨X, 1000, true, true, n.toNat⟩ a1 cap1 len1 m1 _ H4.out.dsk HL1.out (HS1.out.below H4.out.bel) (fun hb => H4.out.far HS1.out hb)).mono ?_
  rw [ta_down]
  rintro e x5 ⟨rfl, b5, hd5, hg5, _⟩
  have H5 : Hid (DW w x5 R b5 ⟨X, 1000, true, true, n.toNat⟩) := H4.out.wrote hd5 hg5
  clear hd5 hg5
  go_wp2_with fail
  refine (disk_start w.heap.size R b5 _ _ H5.out.dsk).mono ?_
  rintro e x6 ⟨rfl, hd6, hg6⟩
  have H6 : Hid (DW w x6 R b5 ⟨X, 1000, false, false, n.toNat⟩) := H5.out.done hd6 hg6
  clear hd6 hg6
  go_wp2_with fail
  refine (disk_read_on w.heap.size R b5 _ _ H6.out.dsk rfl).mono ?_
  rintro e x7 ⟨a7, c7, rfl, hs7, _, hb7⟩
  have H7 := Lib.hid (H6.out.below hb7)
  have HS7 := Lib.hid hs7
  dsimp only at HS7
  clear hb7 hs7 H1 H2 H3 H4 H5 H6 KA KB
  generalize hN : n.toNat = N at *
  go_upto_if 60 with fail
  go_cut [13] (fun s wx => s = .int .i64 (N : Int) ∧ wx = x7)
  case first =>
    by_cases hn : n < 0
    · have t : decide (n < 0) = true := by simp; omega
      obtain rfl : N = 0 := by omega
      go_wp2_with fail
      go_meet
      exact ⟨rfl, rfl⟩
    · have t : decide (n < 0) = false := by simp; omega
      have HNN : Hid (n = (N : Int)) := by show _ = _; omega
      go_wp2_with fail
      go_meet
      exact ⟨by rw [HNN.out], rfl⟩
  case rest =>
  obtain ⟨rfl, hw⟩ := hcut
  obtain rfl := hw.symm
  clear hw hN
  go_upto_if 64 with fail
  go_cut [13] (fun s wx => s = .int .i64 ((min N len1 : Nat) : Int) ∧ wx = x7)
  case first =>
    by_cases hn : len1 < N
    · have t : decide ((len1 : Int) < (N : Int)) = true := by simp; omega
      have t' : decide (len1 < N) = true := by simp; omega
      have e : Hid (min N len1 = len1) := by show _ = _; omega
      go_wp2_with fail
      go_meet
      exact ⟨by rw [e.out], rfl⟩
    · have t : decide ((len1 : Int) < (N : Int)) = false := by simp; omega
      have t' : decide (len1 < N) = false := by simp; omega
      have e : Hid (min N len1 = N) := by show _ = _; omega
      go_wp2_with fail
      go_meet
      exact ⟨by rw [e.out], rfl⟩
  case rest =>
  obtain ⟨rfl, hw⟩ := hcut
  obtain rfl := hw.symm
  clear hw
  have hkl : min N len1 ≤ len1 := by omega
  generalize hK : min N len1 = K at *
  have HK := Lib.hid hK
  have hsl := slice_opt a1 len1 cap1 K (by omega)
  have hsl' := slice_opt' a1 len1 cap1 K (by omega)
  have HTK : Hid ((m1.take K).length = K) := by show _ = _; rw [List.length_take, HL1.out]; omega
  have hsz : ¬ 9223372036854775807 < (strB m0).size + (strB (m1.take K)).size := by rw [strB_size, strB_size, HL0.out, HTK.out]; omega
  have HA : Hid (∀ wq, Ext x7.drew wq → SeenAt wq a0 cap0 m0) := fun wq h => ((HS0.out.below H7.out.bel).below (below_drew x7)).below h
  have HB : Hid (∀ wq, Ext x7.drew wq → SeenAt wq a1 cap1 m1) := fun wq h => ((HS1.out.below H7.out.bel).below (below_drew x7)).below h
  clear hK
  go_upto_region 20 with fail
  refine wp_region_ext (by kernel_rfl) ?_
  refine wpAnyH_tk (i := 0) 67 (v := ?_) rfl rfl (by kernel_rfl) (by kernel_rfl) (by kernel_rfl) (by rfl) (fun wq hwq => ?_) ?_
  rotate_left
  · (go_simp <;> with_reducible rfl)
  simp only [List.setIfInBounds_toArray, List.set_cons_zero, List.set_cons_succ]
  refine wpAnyH_tk (i := 1) 68 (v := ?_) rfl rfl (by kernel_rfl) (by kernel_rfl) (by kernel_rfl) (by rfl) (fun wq hwq => ?_) ?_
  rotate_left
  · (have hx := str_at (HA.out wq hwq) HL0.out; go_simp <;> with_reducible rfl)
  simp only [List.setIfInBounds_toArray, List.set_cons_zero, List.set_cons_succ]
  refine wpAnyH_tk (i := 2) 69 (v := ?_) rfl rfl (by kernel_rfl) (by kernel_rfl) (by kernel_rfl) (by rfl) (fun wq hwq => ?_) ?_
  rotate_left
  · (go_simp <;> with_reducible rfl)
  simp only [List.setIfInBounds_toArray, List.set_cons_zero, List.set_cons_succ]
  refine wpAnyH_tk (i := 3) 70 (v := ?_) rfl rfl (by kernel_rfl) (by kernel_rfl) (by kernel_rfl) (by rfl) (fun wq hwq => ?_) ?_
  rotate_left
  · (go_simp <;> with_reducible rfl)
  simp only [List.setIfInBounds_toArray, List.set_cons_zero, List.set_cons_succ]
  refine wpAnyH_tk (i := 4) 71 (v := ?_) rfl rfl (by kernel_rfl) (by kernel_rfl) (by kernel_rfl) (by rfl) (fun wq hwq => ?_) ?_
  rotate_left
  · (go_simp <;> with_reducible rfl)
  simp only [List.setIfInBounds_toArray, List.set_cons_zero, List.set_cons_succ]
  refine wpAnyH_tk (i := 5) 72 (v := ?_) rfl rfl (by kernel_rfl) (by kernel_rfl) (by kernel_rfl) (by rfl) (fun wq hwq => ?_) ?_
  rotate_left
  · (have hx := str_at ((HB.out wq hwq).take K) HTK.out; go_simp <;> with_reducible rfl)
  simp only [List.setIfInBounds_toArray, List.set_cons_zero, List.set_cons_succ]
  refine wpAnyH_tk (i := 6) 73 (v := ?_) rfl rfl (by kernel_rfl) (by kernel_rfl) (by kernel_rfl) (by rfl) (fun wq hwq => ?_) ?_
  rotate_left
  · (go_simp <;> with_reducible rfl)
  simp only [List.setIfInBounds_toArray, List.set_cons_zero, List.set_cons_succ]
  refine wpAnyH_tk (i := 7) 14 (v := ?_) rfl rfl (by kernel_rfl) (by kernel_rfl) (by kernel_rfl) (by rfl) (fun wq hwq => ?_) ?_
  rotate_left
  · (go_simp <;> with_reducible rfl)
  simp only [List.setIfInBounds_toArray, List.set_cons_zero, List.set_cons_succ]
  refine wpAnyH_done (by kernel_rfl) ?_ _
  refine NoPanic.normal ?_
  have HXS : Hid (strB X = strB m0 ++ strB (m1.take K)) := by
    show _ = _
    rw [← HX.out, tornTo_app, HL1.out, HK.out, strB_app]
  go_wp2_with fail
  refine (awake8 _).mono ?_
  rintro e x8 ⟨rfl, hb8⟩
  have H8 := Lib.hid ((H7.out.below (below_drew x7)).below hb8)
  have hstr := str_of ((HS7.out.below (below_drew x7)).below hb8)
  clear hb8 H7 HS7
  rw [HXS.out] at hstr
  have KD := Lib.hid (ta_last X N HXL.out)
  go_wp2_with fail
  refine (disk_append w.heap.size R b5 ⟨X, 1000, false, false, N⟩ none 0 0 [] _ H8.out.dsk rfl (SeenAt.nil (Nat.zero_le _)) (fun h => absurd rfl h)).mono ?_
  rw [KD.out]
  rintro e x9 ⟨rfl, b9, hd9, hg9, _⟩
  have H9 := Lib.hid (H8.out.wrote hd9 hg9).bel
  clear hd9 hg9
  go_wp2
  go_ret
  exact ⟨rfl, H9.out⟩

set_option maxRecDepth 100000 in
set_option maxHeartbeats 4000000 in
theorem diskTears_rep (a0 : Option Addr) (len0 cap0 : Nat) (m0 : List Nat) (a1 : Option Addr) (len1 cap1 : Nat) (m1 : List Nat) (n : Int) (w : World) (w0 : m0.length = len0 ∧ SeenAt w a0 cap0 m0) (w1 : m1.length = len1 ∧ SeenAt w a1 cap1 m1) (h0 : len0 ≤ 300) (h1 : len1 ≤ 300) :
    Calls Try.prog 6 #[.slice a0 len0 cap0, .slice a1 len1 cap1, .int .i64 n, .bool true] w fun e w' => e = .returned (.bool true) ∧ Below w.heap.size w w' := by
  have KA := Lib.hid (ta_first m0 (by rw [w0.1]; exact h0))
  have KB := Lib.hid (ta_torn m0 m1 n.toNat true (by rw [w0.1]; exact h0) (by rw [w1.1]; exact h1))
  have HXL : Hid ((tornTo m0 m1 n.toNat true).length ≤ 1000) := by have := tornTo_len m0 m1 n.toNat true; rw [w0.1, w1.1] at this; show _ ≤ _; omega
  have HXX : Hid (tornTo m0 m1 n.toNat true = tornTo m0 m1 n.toNat true) := rfl
  generalize hX : tornTo m0 m1 n.toNat true = X at KB HXL
  have HX := Lib.hid hX
  have hc1 : len1 ≤ cap1 := by have := w1.1; have := w1.2.le; omega
  have HL0 := Lib.hid w0.1
  have HS0 := Lib.hid w0.2
  have HL1 := Lib.hid w1.1
  have HS1 := Lib.hid w1.2
  have d0 : decide ((300 : Int) < (len0 : Int)) = false := by simp; omega
  have d1 : decide ((300 : Int) < (len1 : Int)) = false := by simp; omega
  clear w0 w1 hX HXX
  go_enter Try.func6, Try.ntmps6
  go_wp2_with fail
  refine (disk_new 1000 _).mono ?_
  rintro e x1 ⟨R, rfl, -, hd1, hb1⟩
  rw [show roomOf 1000 = 1000 by decide] at hd1
  have H1 : Hid (DW w x1 R none ⟨[], 1000, false, false, 0⟩) := ⟨hd1, hb1⟩
  clear hd1 hb1
  go_wp2_with fail
  refine (disk_append w.heap.size R none ⟨[], 1000, false, false, 0⟩ a0 cap0 len0 m0 _ H1.out.dsk HL0.out (HS0.out.below H1.out.bel) (fun hb => H1.out.far HS0.out hb)).mono ?_
  rw [KA.out]
  rintro e x2 ⟨rfl, b2, hd2, hg2, _⟩
  have H2 : Hid (DW w x2 R b2 ⟨m0, 1000, false, false, 0⟩) := H1.out.wrote hd2 hg2
  clear hd2 hg2
  go_wp2_with fail
  refine (disk_tear w.heap.size R b2 _ n _ H2.out.dsk).mono ?_
  rintro e x3 ⟨rfl, hd3, hg3⟩
  have H3 : Hid (DW w x3 R b2 ⟨m0, 1000, false, true, n.toNat⟩) := H2.out.done hd3 hg3
  clear hd3 hg3
  go_wp2_with fail
  refine (disk_replace w.heap.size R b2 ⟨m0, 1000, false, true, n.toNat⟩ a1 cap1 len1 m1 _ H3.out.dsk HL1.out (HS1.out.below H3.out.bel) (fun hb => H3.out.far HS1.out hb)).mono ?_
  rw [KB.out]
  rintro e x4 ⟨rfl, b4, hd4, hg4, _⟩
  have H4 : Hid (DW w x4 R b4 ⟨X, 1000, true, true, n.toNat⟩) := H3.out.wrote hd4 hg4
  clear hd4 hg4
  go_wp2_with fail
  refine (disk_up w.heap.size R b4 _ _ H4.out.dsk).mono ?_
  rintro e w' ⟨rfl, rfl⟩
  go_wp2_with fail
  refine (disk_append w.heap.size R b4 ⟨X, 1000, true, true, n.toNat⟩ a1 cap1 len1 m1 _ H4.out.dsk HL1.out (HS1.out.below H4.out.bel) (fun hb => H4.out.far HS1.out hb)).mono ?_
  rw [ta_down]
  rintro e x5 ⟨rfl, b5, hd5, hg5, _⟩
  have H5 : Hid (DW w x5 R b5 ⟨X, 1000, true, true, n.toNat⟩) := H4.out.wrote hd5 hg5
  clear hd5 hg5
  go_wp2_with fail
  refine (disk_start w.heap.size R b5 _ _ H5.out.dsk).mono ?_
  rintro e x6 ⟨rfl, hd6, hg6⟩
  have H6 : Hid (DW w x6 R b5 ⟨X, 1000, false, false, n.toNat⟩) := H5.out.done hd6 hg6
  clear hd6 hg6
  go_wp2_with fail
  refine (disk_read_on w.heap.size R b5 _ _ H6.out.dsk rfl).mono ?_
  rintro e x7 ⟨a7, c7, rfl, hs7, _, hb7⟩
  have H7 := Lib.hid (H6.out.below hb7)
  have HS7 := Lib.hid hs7
  dsimp only at HS7
  clear hb7 hs7 H1 H2 H3 H4 H5 H6 KA KB
  generalize hN : n.toNat = N at *
  go_upto_if 60 with fail
  go_cut [13] (fun s wx => s = .int .i64 (N : Int) ∧ wx = x7)
  case first =>
    by_cases hn : n < 0
    · have t : decide (n < 0) = true := by simp; omega
      obtain rfl : N = 0 := by omega
      go_wp2_with fail
      go_meet
      exact ⟨rfl, rfl⟩
    · have t : decide (n < 0) = false := by simp; omega
      have HNN : Hid (n = (N : Int)) := by show _ = _; omega
      go_wp2_with fail
      go_meet
      exact ⟨by rw [HNN.out], rfl⟩
  case rest =>
  obtain ⟨rfl, hw⟩ := hcut
  obtain rfl := hw.symm
  clear hw hN
  go_upto_if 64 with fail
  go_cut [13] (fun s wx => s = .int .i64 ((min N len1 : Nat) : Int) ∧ wx = x7)
  case first =>
    by_cases hn : len1 < N
    · have t : decide ((len1 : Int) < (N : Int)) = true := by simp; omega
      have t' : decide (len1 < N) = true := by simp; omega
      have e : Hid (min N len1 = len1) := by show _ = _; omega
      go_wp2_with fail
      go_meet
      exact ⟨by rw [e.out], rfl⟩
    · have t : decide ((len1 : Int) < (N : Int)) = false := by simp; omega
      have t' : decide (len1 < N) = false := by simp; omega
      have e : Hid (min N len1 = N) := by show _ = _; omega
      go_wp2_with fail
      go_meet
      exact ⟨by rw [e.out], rfl⟩
  case rest =>
  obtain ⟨rfl, hw⟩ := hcut
  obtain rfl := hw.symm
  clear hw
  have hkl : min N len1 ≤ len1 := by omega
  generalize hK : min N len1 = K at *
  have HK := Lib.hid hK
  have hsl := slice_opt a1 len1 cap1 K (by omega)
  have hsl' := slice_opt' a1 len1 cap1 K (by omega)
  have HTK : Hid ((m1.take K).length = K) := by show _ = _; rw [List.length_take, HL1.out]; omega
  have hsz : ¬ 9223372036854775807 < (strB m0).size + (strB (m1.take K)).size := by rw [strB_size, strB_size, HL0.out, HTK.out]; omega
  have HA : Hid (∀ wq, Ext x7.drew wq → SeenAt wq a0 cap0 m0) := fun wq h => ((HS0.out.below H7.out.bel).below (below_drew x7)).below h
  have HB : Hid (∀ wq, Ext x7.drew wq → SeenAt wq a1 cap1 m1) := fun wq h => ((HS1.out.below H7.out.bel).below (below_drew x7)).below h
  clear hK
  go_upto_region 20 with fail
  refine wp_region_ext (by kernel_rfl) ?_
  refine wpAnyH_tk (i := 0) 67 (v := ?_) rfl rfl (by kernel_rfl) (by kernel_rfl) (by kernel_rfl) (by rfl) (fun wq hwq => ?_) ?_
  rotate_left
  · (go_simp <;> with_reducible rfl)
  simp only [List.setIfInBounds_toArray, List.set_cons_zero, List.set_cons_succ]
  refine wpAnyH_tk (i := 1) 68 (v := ?_) rfl rfl (by kernel_rfl) (by kernel_rfl) (by kernel_rfl) (by rfl) (fun wq hwq => ?_) ?_
  rotate_left
  · (have hx := str_at (HA.out wq hwq) HL0.out; go_simp <;> with_reducible rfl)
  simp only [List.setIfInBounds_toArray, List.set_cons_zero, List.set_cons_succ]
  refine wpAnyH_tk (i := 2) 69 (v := ?_) rfl rfl (by kernel_rfl) (by kernel_rfl) (by kernel_rfl) (by rfl) (fun wq hwq => ?_) ?_
  rotate_left
  · (go_simp <;> with_reducible rfl)
  simp only [List.setIfInBounds_toArray, List.set_cons_zero, List.set_cons_succ]
  refine wpAnyH_tk (i := 3) 70 (v := ?_) rfl rfl (by kernel_rfl) (by kernel_rfl) (by kernel_rfl) (by rfl) (fun wq hwq => ?_) ?_
  rotate_left
  · (go_simp <;> with_reducible rfl)
  simp only [List.setIfInBounds_toArray, List.set_cons_zero, List.set_cons_succ]
  refine wpAnyH_tk (i := 4) 71 (v := ?_) rfl rfl (by kernel_rfl) (by kernel_rfl) (by kernel_rfl) (by rfl) (fun wq hwq => ?_) ?_
  rotate_left
  · (go_simp <;> with_reducible rfl)
  simp only [List.setIfInBounds_toArray, List.set_cons_zero, List.set_cons_succ]
  refine wpAnyH_tk (i := 5) 72 (v := ?_) rfl rfl (by kernel_rfl) (by kernel_rfl) (by kernel_rfl) (by rfl) (fun wq hwq => ?_) ?_
  rotate_left
  · (have hx := str_at ((HB.out wq hwq).take K) HTK.out; go_simp <;> with_reducible rfl)
  simp only [List.setIfInBounds_toArray, List.set_cons_zero, List.set_cons_succ]
  refine wpAnyH_tk (i := 6) 73 (v := ?_) rfl rfl (by kernel_rfl) (by kernel_rfl) (by kernel_rfl) (by rfl) (fun wq hwq => ?_) ?_
  rotate_left
  · (go_simp <;> with_reducible rfl)
  simp only [List.setIfInBounds_toArray, List.set_cons_zero, List.set_cons_succ]
  refine wpAnyH_tk (i := 7) 14 (v := ?_) rfl rfl (by kernel_rfl) (by kernel_rfl) (by kernel_rfl) (by rfl) (fun wq hwq => ?_) ?_
  rotate_left
  · (go_simp <;> with_reducible rfl)
  simp only [List.setIfInBounds_toArray, List.set_cons_zero, List.set_cons_succ]
  refine wpAnyH_done (by kernel_rfl) ?_ _
  refine NoPanic.normal ?_
  have hsa := str_at (HA.out x7.drew (Below.refl _ _)) HL0.out
  have hsb := str_at (HB.out x7.drew (Below.refl _ _)) HL1.out
  have HXQ : Hid (X = if K = len1 then m1 else m0) := by
    show _ = _
    rw [← HX.out, tornTo_rep, HL1.out, HK.out]
  by_cases hq : K = len1
  · have t : ((K : Int) == (len1 : Int)) = true := by simp; omega
    have HXS : Hid (strB X = strB m1) := by
      show _ = _
      rw [HXQ.out, if_pos hq]
    clear HXQ
    go_wp2_with fail
    refine (awake8 _).mono ?_
    rintro e x8 ⟨rfl, hb8⟩
    have H8 := Lib.hid ((H7.out.below (below_drew x7)).below hb8)
    have hstr := str_of ((HS7.out.below (below_drew x7)).below hb8)
    clear hb8 H7 HS7
    rw [HXS.out] at hstr
    have KD := Lib.hid (ta_last X N HXL.out)
    go_wp2_with fail
    refine (disk_append w.heap.size R b5 ⟨X, 1000, false, false, N⟩ none 0 0 [] _ H8.out.dsk rfl (SeenAt.nil (Nat.zero_le _)) (fun h => absurd rfl h)).mono ?_
    rw [KD.out]
    rintro e x9 ⟨rfl, b9, hd9, hg9, _⟩
    have H9 := Lib.hid (H8.out.wrote hd9 hg9).bel
    clear hd9 hg9
    go_wp2
    go_ret
    exact ⟨rfl, H9.out⟩
  · have t : ((K : Int) == (len1 : Int)) = false := by simp; omega
    have HXS : Hid (strB X = strB m0) := by
      show _ = _
      rw [HXQ.out, if_neg hq]
    clear HXQ
    go_wp2_with fail
    refine (awake8 _).mono ?_
    rintro e x8 ⟨rfl, hb8⟩
    have H8 := Lib.hid ((H7.out.below (below_drew x7)).below hb8)
    have hstr := str_of ((HS7.out.below (below_drew x7)).below hb8)
    clear hb8 H7 HS7
    rw [HXS.out] at hstr
    have KD := Lib.hid (ta_last X N HXL.out)
    go_wp2_with fail
    refine (disk_append w.heap.size R b5 ⟨X, 1000, false, false, N⟩ none 0 0 [] _ H8.out.dsk rfl (SeenAt.nil (Nat.zero_le _)) (fun h => absurd rfl h)).mono ?_
    rw [KD.out]
    rintro e x9 ⟨rfl, b9, hd9, hg9, _⟩
    have H9 := Lib.hid (H8.out.wrote hd9 hg9).bel
    clear hd9 hg9
    go_wp2
    go_ret
    exact ⟨rfl, H9.out⟩

set_option maxRecDepth 100000 in
set_option maxHeartbeats 1000000 in
theorem diskTears_long (a0 : Option Addr) (len0 cap0 : Nat) (a1 : Option Addr) (len1 cap1 : Nat) (n : Int) (rep : Bool) (w : World) (h0 : len0 ≤ maxLen) (h1 : len1 ≤ maxLen) (h : 300 < len0 ∨ 300 < len1) :
    Calls Try.prog 6 #[.slice a0 len0 cap0, .slice a1 len1 cap1, .int .i64 n, .bool rep] w fun e w' => e = .returned (.bool true) ∧ Below w.heap.size w w' := by
  unfold maxLen at h0 h1
  have t : decide ((300 : Int) < (len0 : Int)) = true ∨ decide ((300 : Int) < (len0 : Int)) = false ∧ decide ((300 : Int) < (len1 : Int)) = true := by simp; omega
  rcases t with t | ⟨t, t'⟩
  all_goals
    go_enter Try.func6, Try.ntmps6
    go_wp2_with fail
    refine (awake8 _).mono ?_
    rintro e w1 ⟨rfl, hb1⟩
    go_wp2
    go_ret
    exact ⟨rfl, hb1⟩

theorem diskTears_walk (a0 : Option Addr) (len0 cap0 : Nat) (m0 : List Nat) (a1 : Option Addr) (len1 cap1 : Nat) (m1 : List Nat) (n : Int) (rep : Bool) (w : World) (w0 : m0.length = len0 ∧ SeenAt w a0 cap0 m0) (w1 : m1.length = len1 ∧ SeenAt w a1 cap1 m1) (_ : (Lit.int .i64 n).wf = true) :
    Calls Try.prog 6 #[.slice a0 len0 cap0, .slice a1 len1 cap1, .int .i64 n, .bool rep] w fun e w' => e = .returned (.bool true) ∧ Below w.heap.size w w' := by
  by_cases h : 300 < len0 ∨ 300 < len1
  · exact diskTears_long a0 len0 cap0 a1 len1 cap1 n rep w (by have := w0.1; have := w0.2.le; have := w0.2.max; omega) (by have := w1.1; have := w1.2.le; have := w1.2.max; omega) h
  · cases rep
    · exact diskTears_app a0 len0 cap0 m0 a1 len1 cap1 m1 n w w0 w1 (by omega) (by omega)
    · exact diskTears_rep a0 len0 cap0 m0 a1 len1 cap1 m1 n w w0 w1 (by omega) (by omega)

end Go.Proofs.Ytfkknggjnbjnjaa
