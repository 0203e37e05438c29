/-
  The walk of the law PackPuts.
-/
import Derived.Test.YtjefjlalebpodaaWalksV3
import Derived.Test.YtjefjlalebpodaaWalksV5
import Derived.Test.YtjefjlalebpodaaExt
namespace Go.Proofs.Ytjefjlalebpodaa
open Go.RowKit


theorem strB_app (ps qs : List Nat) : strB (ps ++ qs) = strB ps ++ strB qs := by
  apply ByteArray.ext
  apply Array.ext'
  rw [strB_list, List.map_append, ← strB_list, ← strB_list]
  simp

theorem strB_size (ps : List Nat) : (strB ps).size = ps.length := by
  show (strB ps).data.size = _
  rw [← Array.length_toList, strB_list, List.length_map]

set_option maxRecDepth 100000 in
set_option maxHeartbeats 1000000 in
theorem packPuts_long (a0 a2 : Option Addr) (l0 l2 c0 c2 : Nat) (n : Int) (w : World) (h : 500 < l0 ∨ 500 < l2) (h0 : l0 ≤ maxLen) (h2 : l2 ≤ maxLen) :
    Calls Try.prog 3 #[.slice a0 l0 c0, .int .i64 n, .slice a2 l2 c2] w fun e w' => e = .returned (.bool true) ∧ Below w.heap.size w w' := by
  unfold maxLen at h0 h2
  by_cases hl : 500 < l0
  · have hd : decide ((500 : Int) < (l0 : Int)) = true := by simp; omega
    go_enter Try.func3, Try.ntmps3
    go_wp2_with fail
    refine (awake5 _).mono ?_
    rintro e w1 ⟨rfl, hb1⟩
    go_wp2
    go_ret
    exact ⟨rfl, hb1⟩
  · have hd : decide ((500 : Int) < (l0 : Int)) = false := by simp; omega
    have hd' : decide ((500 : Int) < (l2 : Int)) = true := by simp; omega
    go_enter Try.func3, Try.ntmps3
    go_wp2_with fail
    refine (awake5 _).mono ?_
    rintro e w1 ⟨rfl, hb1⟩
    go_wp2
    go_ret
    exact ⟨rfl, hb1⟩

set_option maxRecDepth 100000 in
set_option maxHeartbeats 4000000 in
theorem packPuts_short (a0 a2 : Option Addr) (l0 l2 c0 c2 : Nat) (m0 m2 : List Nat) (n : Int) (w : World) (h0 : l0 ≤ 500) (h2 : l2 ≤ 500) (n0 : -9223372036854775808 ≤ n) (n1 : n ≤ 9223372036854775807) (L0 : m0.length = l0) (L2 : m2.length = l2) (s0 : SeenAt w a0 c0 m0) (s2 : SeenAt w a2 c2 m2) :
    Calls Try.prog 3 #[.slice a0 l0 c0, .int .i64 n, .slice a2 l2 c2] w fun e w' => e = .returned (.bool true) ∧ Below w.heap.size w w' := by
  have hd : decide ((500 : Int) < (l0 : Int)) = false := by simp; omega
  have hd' : decide ((500 : Int) < (l2 : Int)) = false := by simp; omega
  have H0 := Lib.hid L0
  have H2 := Lib.hid L2
  have S0 := Lib.hid s0
  have S2 := Lib.hid s2
  have HE1 := Lib.hid (strB_app m0 (Pk.num n))
  have HE2 := Lib.hid (strB_app m0 (Pk.txt m2))
  have Z1 : Hid (¬ 9223372036854775807 < (strB m0).size + (strB (Pk.num n)).size) := by
    have := Pk.num_len n
    show ¬ _
    rw [strB_size, strB_size]
    omega
  have Z2 : Hid (¬ 9223372036854775807 < (strB m0).size + (strB (Pk.txt m2)).size) := by
    have := Pk.txt_len m2
    show ¬ _
    rw [strB_size, strB_size]
    omega
  have hsn : ∃ q, (Pk.num n).length = q := ⟨_, rfl⟩
  obtain ⟨q3, hq3⟩ := hsn
  obtain ⟨q2, hq2⟩ : ∃ q, (m0 ++ Pk.num n).length = q := ⟨_, rfl⟩
  obtain ⟨q4, hq4⟩ : ∃ q, (m0 ++ Pk.txt m2).length = q := ⟨_, rfl⟩
  obtain ⟨q5, hq5⟩ : ∃ q, (Pk.txt m2).length = q := ⟨_, rfl⟩
  have Q2 := Lib.hid hq2
  have Q3 := Lib.hid hq3
  have Q4 := Lib.hid hq4
  have Q5 := Lib.hid hq5
  clear hq2 hq3 hq4 hq5
  have HST := Lib.hid (fun (w' : World) (h : SeenAt w' a0 c0 m0) => str_at h H0.out)
  clear L0 L2 s0 s2
  generalize strB m0 = sb at *
  have HS2 := Lib.hid (fun (w' : World) a c (h : SeenAt w' a c (m0 ++ Pk.num n)) => str_at h Q2.out)
  rw [HE1.out] at HS2
  have HS3 := Lib.hid (fun (w' : World) a c (h : SeenAt w' a c (Pk.num n)) => str_at h Q3.out)
  have HS4 := Lib.hid (fun (w' : World) a c (h : SeenAt w' a c (m0 ++ Pk.txt m2)) => str_at h Q4.out)
  rw [HE2.out] at HS4
  have HS5 := Lib.hid (fun (w' : World) a c (h : SeenAt w' a c (Pk.txt m2)) => str_at h Q5.out)
  clear HE1 HE2
  generalize strB (Pk.num n) = sn at *
  generalize strB (Pk.txt m2) = sx at *
  go_enter Try.func3, Try.ntmps3
  go_wp2_with fail
  refine wp_region_ext (by kernel_rfl) ?_
  have E0 : Hid (Ext w w.drew) := (Below.refl _ _).drew
  generalize w.drew = w0 at *
  refine wpAnyH_one (i := 0) rfl (by kernel_rfl) (by rfl) (fun K hK => ?_)
  go_simp
  go_at_call 13
  refine (awake5 _).mono ?_
  rintro e w1 ⟨rfl, hb1⟩
  have E1 := Lib.hid (E0.out.trans hb1)
  refine hK.out _ _ hb1 ?_
  clear hK K
  refine wpAnyH_tk (i := 1) 17 (v := ?_) rfl rfl (by kernel_rfl) (by kernel_rfl) (by kernel_rfl) (by rfl) (fun wq hwq => ?_) ?_
  rotate_left
  · (go_simp <;> with_reducible rfl)
  simp only [List.setIfInBounds_toArray, List.set_cons_zero, List.set_cons_succ]
  refine wpAnyH_tk (i := 2) 18 (v := ?_) rfl rfl (by kernel_rfl) (by kernel_rfl) (by kernel_rfl) (by rfl) (fun wq hwq => ?_) ?_
  rotate_left
  · (go_simp <;> with_reducible rfl)
  simp only [List.setIfInBounds_toArray, List.set_cons_zero, List.set_cons_succ]
  refine wpAnyH_tk (i := 3) 19 (v := ?_) rfl rfl (by kernel_rfl) (by kernel_rfl) (by kernel_rfl) (by rfl) (fun wq hwq => ?_) ?_
  rotate_left
  · (go_simp <;> with_reducible rfl)
  simp only [List.setIfInBounds_toArray, List.set_cons_zero, List.set_cons_succ]
  refine wpAnyH_tk (i := 6) 22 (v := ?_) rfl rfl (by kernel_rfl) (by kernel_rfl) (by kernel_rfl) (by rfl) (fun wq hwq => ?_) ?_
  rotate_left
  · (go_simp <;> with_reducible rfl)
  simp only [List.setIfInBounds_toArray, List.set_cons_zero, List.set_cons_succ]
  refine wpAnyH_tk (i := 7) 23 (v := ?_) rfl rfl (by kernel_rfl) (by kernel_rfl) (by kernel_rfl) (by rfl) (fun wq hwq => ?_) ?_
  rotate_left
  · (have hx := HST.out wq (S0.out.below (E1.out.trans hwq)); go_simp <;> with_reducible rfl)
  simp only [List.setIfInBounds_toArray, List.set_cons_zero, List.set_cons_succ]
  refine wpAnyH_tk (i := 8) 24 (v := ?_) rfl rfl (by kernel_rfl) (by kernel_rfl) (by kernel_rfl) (by rfl) (fun wq hwq => ?_) ?_
  rotate_left
  · (go_simp <;> with_reducible rfl)
  simp only [List.setIfInBounds_toArray, List.set_cons_zero, List.set_cons_succ]
  refine wpAnyH_one (i := 4) rfl (by kernel_rfl) (by rfl) (fun K hK => ?_)
  go_simp
  refine (packNum_any _ _ _ m0 n _ H0.out (by omega) (S0.out.below E1.out) n0 n1).mono ?_
  rintro e w2 ⟨x2, y2, rfl, hs2, _, hb2⟩
  have E2 := Lib.hid (E1.out.trans hb2)
  have X2 := Lib.hid hs2
  rw [Q2.out]
  refine hK.out _ _ hb2 ?_
  clear hK K
  refine wpAnyH_tk (i := 5) 21 (v := ?_) rfl rfl (by kernel_rfl) (by kernel_rfl) (by kernel_rfl) (by rfl) (fun wq hwq => ?_) ?_
  rotate_left
  · (have hx := HS2.out wq _ _ (X2.out.below hwq); go_simp <;> with_reducible rfl)
  simp only [List.setIfInBounds_toArray, List.set_cons_zero, List.set_cons_succ]
  refine wpAnyH_one (i := 9) rfl (by kernel_rfl) (by rfl) (fun K hK => ?_)
  go_simp
  refine (refNum_any n _ n0 n1).mono ?_
  rintro e w3 ⟨x3, y3, rfl, own3, hb3⟩
  have E3 := Lib.hid (E2.out.trans hb3)
  have X3 := Lib.hid own3.seenAt
  rw [Q3.out]
  refine hK.out _ _ hb3 ?_
  clear hK K
  refine wpAnyH_tk (i := 10) 26 (v := ?_) rfl rfl (by kernel_rfl) (by kernel_rfl) (by kernel_rfl) (by rfl) (fun wq hwq => ?_) ?_
  rotate_left
  · (have hx := HS3.out wq _ _ (X3.out.below hwq); go_simp <;> with_reducible rfl)
  simp only [List.setIfInBounds_toArray, List.set_cons_zero, List.set_cons_succ]
  refine wpAnyH_tk (i := 11) 27 (v := ?_) rfl rfl (by kernel_rfl) (by kernel_rfl) (by kernel_rfl) (by rfl) (fun wq hwq => ?_) ?_
  rotate_left
  · (have hx := Z1.out; go_simp <;> with_reducible rfl)
  simp only [List.setIfInBounds_toArray, List.set_cons_zero, List.set_cons_succ]
  refine wpAnyH_tk (i := 12) 28 (v := ?_) rfl rfl (by kernel_rfl) (by kernel_rfl) (by kernel_rfl) (by rfl) (fun wq hwq => ?_) ?_
  rotate_left
  · (go_simp <;> with_reducible rfl)
  simp only [List.setIfInBounds_toArray, List.set_cons_zero, List.set_cons_succ]
  refine wpAnyH_tk (i := 13) 29 (v := ?_) rfl rfl (by kernel_rfl) (by kernel_rfl) (by kernel_rfl) (by rfl) (fun wq hwq => ?_) ?_
  rotate_left
  · (go_simp <;> with_reducible rfl)
  simp only [List.setIfInBounds_toArray, List.set_cons_zero, List.set_cons_succ]
  refine wpAnyH_tk (i := 14) 30 (v := ?_) rfl rfl (by kernel_rfl) (by kernel_rfl) (by kernel_rfl) (by rfl) (fun wq hwq => ?_) ?_
  rotate_left
  · (go_simp <;> with_reducible rfl)
  simp only [List.setIfInBounds_toArray, List.set_cons_zero, List.set_cons_succ]
  refine wpAnyH_tk (i := 15) 31 (v := ?_) rfl rfl (by kernel_rfl) (by kernel_rfl) (by kernel_rfl) (by rfl) (fun wq hwq => ?_) ?_
  rotate_left
  · (go_simp <;> with_reducible rfl)
  simp only [List.setIfInBounds_toArray, List.set_cons_zero, List.set_cons_succ]
  refine wpAnyH_tk (i := 16) 32 (v := ?_) rfl rfl (by kernel_rfl) (by kernel_rfl) (by kernel_rfl) (by rfl) (fun wq hwq => ?_) ?_
  rotate_left
  · (go_simp <;> with_reducible rfl)
  simp only [List.setIfInBounds_toArray, List.set_cons_zero, List.set_cons_succ]
  refine wpAnyH_tk (i := 19) 35 (v := ?_) rfl rfl (by kernel_rfl) (by kernel_rfl) (by kernel_rfl) (by rfl) (fun wq hwq => ?_) ?_
  rotate_left
  · (go_simp <;> with_reducible rfl)
  simp only [List.setIfInBounds_toArray, List.set_cons_zero, List.set_cons_succ]
  refine wpAnyH_tk (i := 20) 36 (v := ?_) rfl rfl (by kernel_rfl) (by kernel_rfl) (by kernel_rfl) (by rfl) (fun wq hwq => ?_) ?_
  rotate_left
  · (have hx := HST.out wq (S0.out.below (E3.out.trans hwq)); go_simp <;> with_reducible rfl)
  simp only [List.setIfInBounds_toArray, List.set_cons_zero, List.set_cons_succ]
  refine wpAnyH_tk (i := 21) 37 (v := ?_) rfl rfl (by kernel_rfl) (by kernel_rfl) (by kernel_rfl) (by rfl) (fun wq hwq => ?_) ?_
  rotate_left
  · (go_simp <;> with_reducible rfl)
  simp only [List.setIfInBounds_toArray, List.set_cons_zero, List.set_cons_succ]
  refine wpAnyH_one (i := 17) rfl (by kernel_rfl) (by rfl) (fun K hK => ?_)
  go_simp
  refine (packText_any _ _ _ _ _ _ m0 m2 _ H0.out H2.out (by omega) (by omega) (S0.out.below E3.out) (S2.out.below E3.out)).mono ?_
  rintro e w4 ⟨x4, y4, rfl, hs4, _, hb4⟩
  have E4 := Lib.hid (E3.out.trans hb4)
  have X4 := Lib.hid hs4
  rw [Q4.out]
  refine hK.out _ _ hb4 ?_
  clear hK K
  refine wpAnyH_tk (i := 18) 34 (v := ?_) rfl rfl (by kernel_rfl) (by kernel_rfl) (by kernel_rfl) (by rfl) (fun wq hwq => ?_) ?_
  rotate_left
  · (have hx := HS4.out wq _ _ (X4.out.below hwq); go_simp <;> with_reducible rfl)
  simp only [List.setIfInBounds_toArray, List.set_cons_zero, List.set_cons_succ]
  refine wpAnyH_one (i := 22) rfl (by kernel_rfl) (by rfl) (fun K hK => ?_)
  go_simp
  refine (refText_any _ _ _ m2 _ H2.out (by omega) (S2.out.below E4.out)).mono ?_
  rintro e w5 ⟨x5, y5, rfl, own5, hb5⟩
  have E5 := Lib.hid (E4.out.trans hb5)
  have X5 := Lib.hid own5.seenAt
  rw [Q5.out]
  refine hK.out _ _ hb5 ?_
  clear hK K
  refine wpAnyH_tk (i := 23) 39 (v := ?_) rfl rfl (by kernel_rfl) (by kernel_rfl) (by kernel_rfl) (by rfl) (fun wq hwq => ?_) ?_
  rotate_left
  · (have hx := HS5.out wq _ _ (X5.out.below hwq); go_simp <;> with_reducible rfl)
  simp only [List.setIfInBounds_toArray, List.set_cons_zero, List.set_cons_succ]
  refine wpAnyH_tk (i := 24) 40 (v := ?_) rfl rfl (by kernel_rfl) (by kernel_rfl) (by kernel_rfl) (by rfl) (fun wq hwq => ?_) ?_
  rotate_left
  · (have hx := Z2.out; go_simp <;> with_reducible rfl)
  simp only [List.setIfInBounds_toArray, List.set_cons_zero, List.set_cons_succ]
  refine wpAnyH_tk (i := 25) 41 (v := ?_) rfl rfl (by kernel_rfl) (by kernel_rfl) (by kernel_rfl) (by rfl) (fun wq hwq => ?_) ?_
  rotate_left
  · (go_simp <;> with_reducible rfl)
  simp only [List.setIfInBounds_toArray, List.set_cons_zero, List.set_cons_succ]
  refine wpAnyH_tk (i := 26) 42 (v := ?_) rfl rfl (by kernel_rfl) (by kernel_rfl) (by kernel_rfl) (by rfl) (fun wq hwq => ?_) ?_
  rotate_left
  · (go_simp <;> with_reducible rfl)
  simp only [List.setIfInBounds_toArray, List.set_cons_zero, List.set_cons_succ]
  refine wpAnyH_tk (i := 27) 6 (v := ?_) rfl rfl (by kernel_rfl) (by kernel_rfl) (by kernel_rfl) (by rfl) (fun wq hwq => ?_) ?_
  rotate_left
  · (go_simp <;> with_reducible rfl)
  simp only [List.setIfInBounds_toArray, List.set_cons_zero, List.set_cons_succ]
  refine wpAnyH_done (by kernel_rfl) ?_ _
  refine NoPanic.normal ?_
  go_wp2
  go_ret
  exact ⟨rfl, E5.out⟩

theorem packPuts_walk (a0 : Option Addr) (len0 cap0 : Nat) (m0 : List Nat) (a1 : Int) (a2 : Option Addr) (len2 cap2 : Nat) (m2 : List Nat) (w : World) (w0 : m0.length = len0 ∧ SeenAt w a0 cap0 m0) (w1 : (Lit.int .i64 a1).wf = true) (w2 : m2.length = len2 ∧ SeenAt w a2 cap2 m2) :
    Calls Try.prog 3 #[.slice a0 len0 cap0, .int .i64 a1, .slice a2 len2 cap2] w fun e w' => e = .returned (.bool true) ∧ Below w.heap.size w w' := by
  have e1 : -9223372036854775808 ≤ a1 ∧ a1 ≤ 9223372036854775807 := by simpa [Lit.wf, IntKind.min, IntKind.max, IntKind.signed, IntKind.bits] using w1
  have h0 : len0 ≤ maxLen := by have := w0.1; have := w0.2.le; have := w0.2.max; omega
  have h2 : len2 ≤ maxLen := by have := w2.1; have := w2.2.le; have := w2.2.max; omega
  by_cases hlong : 500 < len0 ∨ 500 < len2
  · exact packPuts_long a0 a2 len0 len2 cap0 cap2 a1 w hlong h0 h2
  · exact packPuts_short a0 a2 len0 len2 cap0 cap2 m0 m2 a1 w (by omega) (by omega) e1.1 e1.2 w0.1 w2.1 w0.2 w2.2

end Go.Proofs.Ytjefjlalebpodaa
