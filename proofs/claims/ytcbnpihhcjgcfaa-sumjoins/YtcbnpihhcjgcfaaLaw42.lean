/-
  The walk of the law SumJoins.
-/
import Derived.Test.YtcbnpihhcjgcfaaWalksU2
namespace Go.Proofs.Ytcbnpihhcjgcfaa
open Go.RowKit

/-- An operation whose guard says yes. -/
theorem wpList_unguard {P : Program} {ops : Array Oper} {rest : List Oper} {o : Oper} {a : Act} {Q : Exit → Act → World → Prop} {w : World} (hw : Region.wanted o (yielded ops a.tmps) = true)
    (h : wpList P ops Q ({ o with guard := none } :: rest) a w) : wpList P ops Q (o :: rest) a w := by
  unfold wpList at h ⊢
  rw [if_pos (show Region.wanted { o with guard := none } (yielded ops a.tmps) = true from rfl)] at h
  rw [if_pos hw]
  exact h

set_option maxRecDepth 100000 in
set_option maxHeartbeats 1000000 in
theorem sumJoins_long (a0 a1 : Option Addr) (l0 l1 c0 c1 : Nat) (w : World) (h : 2000 < l0 ∨ 2000 < l1) (h0 : l0 ≤ maxLen) (h1 : l1 ≤ maxLen) :
    Calls Try.prog 4 #[.slice a0 l0 c0, .slice a1 l1 c1] w fun e w' => e = .returned (.bool true) ∧ Below w.heap.size w w' := by
  unfold maxLen at h0 h1
  by_cases hl : 2000 < l0
  · have hd : decide ((2000 : Int) < (l0 : Int)) = true := by simp; omega
    go_enter Try.func4, Try.ntmps4
    go_wp2_with fail
    refine (awake_any _).mono ?_
    rintro e w1 ⟨rfl, hb1⟩
    go_wp2
    go_ret
    exact ⟨rfl, hb1⟩
  · have hd : decide ((2000 : Int) < (l0 : Int)) = false := by simp; omega
    have hd' : decide ((2000 : Int) < (l1 : Int)) = true := by simp; omega
    go_enter Try.func4, Try.ntmps4
    go_wp2_with fail
    refine (awake_any _).mono ?_
    rintro e w1 ⟨rfl, hb1⟩
    go_wp2
    go_ret
    exact ⟨rfl, hb1⟩

set_option maxRecDepth 100000 in
set_option maxHeartbeats 1000000 in
theorem sumJoins_short (a0 a1 : Option Addr) (l0 l1 c0 c1 : Nat) (m0 m1 : List Nat) (w : World) (h0 : l0 ≤ 2000) (h1 : l1 ≤ 2000) (L0 : m0.length = l0) (L1 : m1.length = l1) (s0 : SeenAt w a0 c0 m0) (s1 : SeenAt w a1 c1 m1) :
    Calls Try.prog 4 #[.slice a0 l0 c0, .slice a1 l1 c1] w fun e w' => e = .returned (.bool true) ∧ Below w.heap.size w w' := by
  have hd : decide ((2000 : Int) < (l0 : Int)) = false := by simp; omega
  have hd' : decide ((2000 : Int) < (l1 : Int)) = false := by simp; omega
  have H0 := Lib.hid L0
  have H1 := Lib.hid L1
  have S0 := Lib.hid s0
  have S1 := Lib.hid s1
  have e0 := Crc.sum_lt m0 s0.byte
  have e1 := Crc.sum_lt m1 s1.byte
  have HJ : Hid (Crc.bN (8 * l1) (Crc.sum m0) ^^^ Crc.sum m1 = Crc.sum (m0 ++ m1)) := by
    show _ = _
    rw [Crc.sum_app, L1]
  clear L0 L1 s0 s1
  go_enter Try.func4, Try.ntmps4
  go_wp2_with fail
  refine (awake_any _).mono ?_
  rintro e w1 ⟨rfl, hb1⟩
  have T0 := Lib.hid (S0.out.below hb1)
  have T1 := Lib.hid (S1.out.below hb1)
  go_wp2_with fail
  refine (of_any _ _ _ m0 _ H0.out T0.out).mono ?_
  rintro e w' ⟨rfl, rfl⟩
  go_wp2_with fail
  refine (of_any _ _ _ m1 _ H1.out T1.out).mono ?_
  rintro e w' ⟨rfl, rfl⟩
  go_wp2_with fail
  refine (join_any _ _ l1 _ e0 e1 (by omega)).mono ?_
  rintro e w' ⟨rfl, rfl⟩
  rw [HJ.out]
  go_wp2_with (first
    | (at_builtin; refine wpList_unguard rfl ?_; refine wpList_appB rfl (.tmp 23) (.tmp 24) rfl w1.heap.size w1.heap.size 0 [] m0 rfl (ownB_lit w1 _ [] #[] rfl bytes_nil (Nat.le_refl _) (by simp)) _ _ (by rw [H0.out]; rfl) (T0.out.below (below_one _ _)) (by rw [H0.out]; simp; omega) (by simp) ?_; intro g cap w2 own2 chg2 hg2)
    | (at_builtin; refine wpList_unguard rfl ?_; refine wpList_appB rfl (.tmp 25) (.tmp 26) rfl w1.heap.size g cap ([] ++ m0) m1 rfl own2 _ _ (by rw [H1.out]; rfl) (T1.out.below (chg2.below (below_one w1 _) (by simp) (by simp))) (by rw [List.nil_append, H0.out, H1.out]; omega) (by have := chg2.size; simp at this; omega) ?_; intro g3 cap3 w3 own3 chg3 hg3))
  have hb12 : Below w1.heap.size w1 w2 := chg2.below (below_one w1 _) (by simp) (by simp)
  have hb3 : Below w1.heap.size w1 w3 := chg3.below hb12 hb12.size (by simp; have := own2.lt; omega)
  have HO : Hid (SeenAt w3 (some ⟨g3, 0, none⟩) cap3 (m0 ++ m1)) := own3.seenAt
  have HB := Lib.hid (hb1.trans (hb3.mono hb1.size))
  clear own2 own3 chg2 chg3 hg2 hg3 hb12 hb3 hb1
  refine (of_any _ _ _ (m0 ++ m1) _ (by simp) HO.out).mono ?_
  rintro e w' ⟨rfl, rfl⟩
  go_wp2
  go_ret
  exact ⟨rfl, HB.out⟩

theorem sumJoins_walk (a0 : Option Addr) (len0 cap0 : Nat) (m0 : List Nat) (a1 : Option Addr) (len1 cap1 : Nat) (m1 : List Nat) (w : World) (w0 : m0.length = len0 ∧ SeenAt w a0 cap0 m0) (w1 : m1.length = len1 ∧ SeenAt w a1 cap1 m1) :
    Calls Try.prog 4 #[.slice a0 len0 cap0, .slice a1 len1 cap1] w fun e w' => e = .returned (.bool true) ∧ Below w.heap.size w w' := by
  have h0 : len0 ≤ maxLen := by have := w0.1; have := w0.2.le; have := w0.2.max; omega
  have h1 : len1 ≤ maxLen := by have := w1.1; have := w1.2.le; have := w1.2.max; omega
  by_cases hlong : 2000 < len0 ∨ 2000 < len1
  · exact sumJoins_long a0 a1 len0 len1 cap0 cap1 w hlong h0 h1
  · exact sumJoins_short a0 a1 len0 len1 cap0 cap1 m0 m1 w (by omega) (by omega) w0.1 w1.1 w0.2 w1.2

end Go.Proofs.Ytcbnpihhcjgcfaa
