/-
  What mat.copied and mat.Mul do.
-/
import Derived.Test.YtnhledngeicekaaWalksM4
namespace Go.Proofs.Ytnhledngeicekaa
open Go.RowKit

theorem getD_congr {α : Type} (m m' : List α) (d : α) (hl : m.length = m'.length) (h : ∀ i, i < m.length → m.getD i d = m'.getD i d) : m = m' := by
  apply List.ext_getElem hl
  intro i h1 h2
  have := h i h1
  rw [List.getD_eq_getElem?_getD, List.getD_eq_getElem?_getD, List.getElem?_eq_getElem h1, List.getElem?_eq_getElem h2] at this
  exact this

/-- A copy of m, its first i rows done. -/
def cpK (m : List (List Nat)) (k : Nat) : Nat → List (List Nat)
  | 0 => List.replicate m.length (List.replicate k 0)
  | i + 1 => (cpK m k i).set i (m.getD i [])

theorem cpK_len (m : List (List Nat)) (k i : Nat) : (cpK m k i).length = m.length := by
  induction i with
  | zero => simp [cpK]
  | succ i ih => simp [cpK, ih]

theorem cpK_row (m : List (List Nat)) (k i j : Nat) (hj : j < m.length) : (cpK m k i).getD j [] = if j < i then m.getD j [] else List.replicate k 0 := by
  induction i with
  | zero => show (List.replicate m.length (List.replicate k 0)).getD j [] = _; rw [getD_rep _ _ _ _ hj, if_neg (by omega)]
  | succ i ih =>
    by_cases e : j = i
    · subst e; rw [cpK, getD_set_eq _ _ _ _ (by rw [cpK_len]; exact hj), if_pos (by omega)]
    · rw [cpK, getD_set_ne _ _ _ _ _ e, ih]
      by_cases h : j < i
      · rw [if_pos h, if_pos (by omega)]
      · rw [if_neg h, if_neg (by omega)]

theorem cpK_all (m : List (List Nat)) (k : Nat) : cpK m k m.length = m := by
  refine getD_congr _ _ [] (cpK_len _ _ _) fun i hi => ?_
  rw [cpK_len] at hi
  rw [cpK_row _ _ _ _ hi, if_pos hi]

set_option maxRecDepth 100000 in
set_option maxHeartbeats 1000000 in
theorem copied_any (va : Option Addr) (vc k : Nat) (m : List (List Nat)) (w : World) (hG : GridAt w va vc m) (h0 : 0 < m.length) (hn : m.length ≤ 1000000) (hk : k ≤ 1000000000) (hr : ∀ i, i < m.length → (m.getD i []).length = k) :
    Calls Try.prog 41 #[.slice va m.length vc] w (RetM w m.length m) := by
  obtain ⟨b, off, ra, rc, e, hcr, _⟩ := hG.at 0 h0
  rw [Nat.add_zero, hr 0 h0] at hcr
  subst e
  have HG := Lib.hid hG
  have HR := Lib.hid hr
  clear hG hr
  go_enter Try.func41, Try.ntmps41
  go_wp2_with fail
  refine (zeros_any m.length k _ hn hk).mono ?_
  rintro e w1 ⟨_, G, C, g, c, rfl, hO1, hb1⟩
  have HO1 := Lib.hid hO1
  have HB1 := Lib.hid hb1
  clear hO1 hb1 hcr
  go_wp2
  go_loopw [4, 5, 15] (fun _ _ i ws => ∃ j : Nat, j ≤ m.length ∧ i = .int .i64 j ∧ Hid (OwnM ws w.heap.size G C g c (cpK m k j)) ∧ Hid (Below w.heap.size w ws)) (fun _ _ i _ => m.length - (intOf i).toNat)
  case atStart => exact ⟨0, Nat.zero_le _, rfl, HO1, HB1⟩
  case round =>
    obtain ⟨j, hj, rfl, hO, hb⟩ := hrel
    have hbz := hb.out.size
    by_cases hlt : j < m.length
    · have hlen := cpK_len m k j
      have hrow : ((cpK m k j).getD j []).length = k := by rw [cpK_row _ _ _ _ hlt, if_neg (by omega)]; simp
      have hc1 := hO.out.cell j (by rw [hlen]; exact hlt)
      rw [hrow] at hc1
      have hR := hO.out.row j (by rw [hlen]; exact hlt)
      obtain ⟨b', off', ra', rc', e, hcj0, hSj0⟩ := HG.out.at j hlt
      cases e
      have hSj := hSj0.below hb.out
      have hcj := cell_later hb.out hcj0
      rw [HR.out j hlt] at hcj
      have HE := Lib.hid hlen
      have HW := Lib.hid hrow
      have HRR := Lib.hid hR
      have HSJ := Lib.hid hSj
      have hlg := hR.lt.1
      have HML := Lib.hid (HR.out j hlt)
      clear hR hlen hrow hSj hSj0 hcj0
      go_wp2_with (with_reducible refine wpList_copyB rfl (.tmp 23) (.tmp 24) rfl w.heap.size (g j) (c j) ((cpK m k j).getD j []) (m.getD j []) k HW.out HML.out rfl HRR.out _ _ rfl HSJ.out ?_; intro w2 hO2 hC2)
      go_round
      case rel =>
        exact ⟨j + 1, by omega, by go_num, hO.out.setRow j (by rw [HE.out]; exact hlt) _ hC2 hO2 (by rw [HW.out, HML.out]), hC2.below hb.out hbz (by simp; exact hlg)⟩
      case measure => simp [intOf]; omega
    · obtain rfl : j = m.length := by omega
      have HE := Lib.hid (cpK_all m k)
      rw [HE.out] at hO
      go_wp2
      go_ret
      exact ⟨rfl, _, _, _, _, rfl, hO.out, hb.out⟩

end Go.Proofs.Ytnhledngeicekaa
