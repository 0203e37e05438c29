/-
  The walk of the law SumZero.
-/
import Derived.Test.YtcbnpihhcjgcfaaWalksU2
namespace Go.Proofs.Ytcbnpihhcjgcfaa
open Go.RowKit


set_option maxRecDepth 100000 in
set_option maxHeartbeats 1000000 in
theorem sumZero_long (a0 a1 a2 : Option Addr) (l0 l1 l2 c0 c1 c2 : Nat) (w : World) (h : 500 < l0 ∨ 500 < l1 ∨ 500 < l2) (h0 : l0 ≤ maxLen) (h1 : l1 ≤ maxLen) (h2 : l2 ≤ maxLen) :
    Calls Try.prog 6 #[.slice a0 l0 c0, .slice a1 l1 c1, .slice a2 l2 c2] w fun e w' => e = .returned (.bool true) ∧ Below w.heap.size w w' := by
  unfold maxLen at h0 h1 h2
  by_cases hl : 500 < l0
  · have hd : decide ((500 : Int) < (l0 : Int)) = true := by simp; omega
    go_enter Try.func6, Try.ntmps6
    go_wp2_with fail
    refine (awake_any _).mono ?_
    rintro e w1 ⟨rfl, hb1⟩
    go_wp2
    go_ret
    exact ⟨rfl, hb1⟩
  · have hd : decide ((500 : Int) < (l0 : Int)) = false := by simp; omega
    by_cases hl' : 500 < l1
    · have hd' : decide ((500 : Int) < (l1 : Int)) = true := by simp; omega
      go_enter Try.func6, Try.ntmps6
      go_wp2_with fail
      refine (awake_any _).mono ?_
      rintro e w1 ⟨rfl, hb1⟩
      go_wp2
      go_ret
      exact ⟨rfl, hb1⟩
    · have hd' : decide ((500 : Int) < (l1 : Int)) = false := by simp; omega
      have hd2 : decide ((500 : Int) < (l2 : Int)) = true := by simp; omega
      go_enter Try.func6, Try.ntmps6
      go_wp2_with fail
      refine (awake_any _).mono ?_
      rintro e w1 ⟨rfl, hb1⟩
      go_wp2
      go_ret
      exact ⟨rfl, hb1⟩

/-- What two sums' being alike says, as the law asks it. -/
theorem zero_eq (m0 m1 m2 : List Nat) (h0 : Gf.Bytes m0) (h1 : Gf.Bytes m1) :
    (((Crc.sum (m0 ++ m2) : Nat) : Int) == ((Crc.sum (m1 ++ m2) : Nat) : Int)) = (((Crc.sum m0 : Nat) : Int) == ((Crc.sum m1 : Nat) : Int)) := by
  have h := Crc.sum_same m0 m1 m2 h0 h1
  rw [Bool.eq_iff_iff, beq_iff_eq, beq_iff_eq]
  constructor
  · intro e; have := h.mp (by omega); omega
  · intro e; have := h.mpr (by omega); omega

set_option maxRecDepth 100000 in
set_option maxHeartbeats 1000000 in
theorem sumZero_short (a0 a1 a2 : Option Addr) (l0 l1 l2 c0 c1 c2 : Nat) (m0 m1 m2 : List Nat) (w : World) (h0 : l0 ≤ 500) (h1 : l1 ≤ 500) (h2 : l2 ≤ 500) (L0 : m0.length = l0) (L1 : m1.length = l1) (L2 : m2.length = l2)
    (s0 : SeenAt w a0 c0 m0) (s1 : SeenAt w a1 c1 m1) (s2 : SeenAt w a2 c2 m2) :
    Calls Try.prog 6 #[.slice a0 l0 c0, .slice a1 l1 c1, .slice a2 l2 c2] w fun e w' => e = .returned (.bool true) ∧ Below w.heap.size w w' := by
  have hd : decide ((500 : Int) < (l0 : Int)) = false := by simp; omega
  have hd' : decide ((500 : Int) < (l1 : Int)) = false := by simp; omega
  have hd2 : decide ((500 : Int) < (l2 : Int)) = false := by simp; omega
  have H0 := Lib.hid L0
  have H1 := Lib.hid L1
  have H2 := Lib.hid L2
  have S0 := Lib.hid s0
  have S1 := Lib.hid s1
  have S2 := Lib.hid s2
  have HZ := Lib.hid (zero_eq m0 m1 m2 s0.byte s1.byte)
  clear L0 L1 L2 s0 s1 s2
  go_enter Try.func6, Try.ntmps6
  go_wp2_with (first
    | (at_builtin; refine wpList_appB rfl (.tmp 23) (.tmp 24) rfl w.heap.size w.heap.size 0 [] m0 rfl (ownB_lit w _ [] #[] rfl bytes_nil (Nat.le_refl _) (by simp)) _ _ (by rw [H0.out]; rfl) (S0.out.below (below_one _ _)) (by rw [H0.out]; simp; omega) (by simp) ?_; intro g cap w2 own2 chg2 hg2)
    | (at_builtin; refine wpList_appB rfl (.tmp 25) (.tmp 26) rfl w.heap.size g cap ([] ++ m0) m2 rfl own2 _ _ (by rw [H2.out]; rfl) (S2.out.below (chg2.below (below_one w _) (by simp) (by simp))) (by rw [List.nil_append, H0.out, H2.out]; omega) (by have := chg2.size; simp at this; omega) ?_; intro g3 cap3 w3 own3 chg3 hg3))
  have hb12 : Below w.heap.size w w2 := chg2.below (below_one w _) (by simp) (by simp)
  have hb3 : Below w.heap.size w w3 := chg3.below hb12 hb12.size (by simp; have := own2.lt; omega)
  have HO : Hid (SeenAt w3 (some ⟨g3, 0, none⟩) cap3 (m0 ++ m2)) := own3.seenAt
  have T1 := Lib.hid (S1.out.below hb3)
  have T2 := Lib.hid (S2.out.below hb3)
  have HB := Lib.hid hb3
  have hsz := hb3.size
  clear own2 own3 chg2 chg3 hg2 hg3 hb12 hb3
  refine (of_any _ _ _ (m0 ++ m2) _ (by simp) HO.out).mono ?_
  rintro e w' ⟨rfl, rfl⟩
  clear HO
  go_wp2_with (first
    | (at_builtin; refine wpList_appB rfl (.tmp 29) (.tmp 30) rfl w3.heap.size w3.heap.size 0 [] m1 rfl (ownB_lit w3 _ [] #[] rfl bytes_nil (Nat.le_refl _) (by simp)) _ _ (by rw [H1.out]; rfl) (T1.out.below (below_one _ _)) (by rw [H1.out]; simp; omega) (by simp) ?_; intro g4 cap4 w4 own4 chg4 hg4)
    | (at_builtin; refine wpList_appB rfl (.tmp 31) (.tmp 32) rfl w3.heap.size g4 cap4 ([] ++ m1) m2 rfl own4 _ _ (by rw [H2.out]; rfl) (T2.out.below (chg4.below (below_one w3 _) (by simp) (by simp))) (by rw [List.nil_append, H1.out, H2.out]; omega) (by have := chg4.size; simp at this; omega) ?_; intro g5 cap5 w5 own5 chg5 hg5))
  have hb34 : Below w3.heap.size w3 w4 := chg4.below (below_one w3 _) (by simp) (by simp)
  have hb5 : Below w3.heap.size w3 w5 := chg5.below hb34 hb34.size (by simp; have := own4.lt; omega)
  have HO : Hid (SeenAt w5 (some ⟨g5, 0, none⟩) cap5 (m1 ++ m2)) := own5.seenAt
  have HB5 := Lib.hid (HB.out.trans (hb5.mono hsz))
  clear own4 own5 chg4 chg5 hg4 hg5 hb34 hb5
  refine (of_any _ _ _ (m1 ++ m2) _ (by simp) HO.out).mono ?_
  rintro e w' ⟨rfl, rfl⟩
  clear HO
  go_wp2_with fail
  refine (awake_any _).mono ?_
  rintro e w6 ⟨rfl, hb6⟩
  have HB6 := Lib.hid (HB5.out.trans (hb6.mono HB5.out.size))
  have U0 := Lib.hid (S0.out.below HB6.out)
  have U1 := Lib.hid (S1.out.below HB6.out)
  clear hb6
  go_wp2_with fail
  refine (of_any _ _ _ m0 _ H0.out U0.out).mono ?_
  rintro e w' ⟨rfl, rfl⟩
  go_wp2_with fail
  refine (of_any _ _ _ m1 _ H1.out U1.out).mono ?_
  rintro e w' ⟨rfl, rfl⟩
  have hz := HZ.out
  go_wp2
  go_ret
  exact ⟨rfl, HB6.out⟩

theorem sumZero_walk (a0 : Option Addr) (len0 cap0 : Nat) (m0 : List Nat) (a1 : Option Addr) (len1 cap1 : Nat) (m1 : List Nat) (a2 : Option Addr) (len2 cap2 : Nat) (m2 : List Nat) (w : World) (w0 : m0.length = len0 ∧ SeenAt w a0 cap0 m0) (w1 : m1.length = len1 ∧ SeenAt w a1 cap1 m1) (w2 : m2.length = len2 ∧ SeenAt w a2 cap2 m2) :
    Calls Try.prog 6 #[.slice a0 len0 cap0, .slice a1 len1 cap1, .slice a2 len2 cap2] w fun e w' => e = .returned (.bool true) ∧ Below w.heap.size w w' := by
  have h0 : len0 ≤ maxLen := by have := w0.1; have := w0.2.le; have := w0.2.max; omega
  have h1 : len1 ≤ maxLen := by have := w1.1; have := w1.2.le; have := w1.2.max; omega
  have h2 : len2 ≤ maxLen := by have := w2.1; have := w2.2.le; have := w2.2.max; omega
  by_cases hlong : 500 < len0 ∨ 500 < len1 ∨ 500 < len2
  · exact sumZero_long a0 a1 a2 len0 len1 len2 cap0 cap1 cap2 w hlong h0 h1 h2
  · exact sumZero_short a0 a1 a2 len0 len1 len2 cap0 cap1 cap2 m0 m1 m2 w (by omega) (by omega) (by omega) w0.1 w1.1 w2.1 w0.2 w1.2 w2.2

end Go.Proofs.Ytcbnpihhcjgcfaa
