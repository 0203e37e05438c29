/-
  What the search by a closure does; mat.Sound and the reference's Sound; mat.copied.
-/
import Derived.Test.YtnhledngeicekaaWalksM2
namespace Go.Proofs.Ytnhledngeicekaa
open Go.RowKit

theorem GridAt.at {w : World} {a : Option Addr} {cap : Nat} {m : List (List Nat)} (h : GridAt w a cap m) (i : Nat) (hi : i < m.length) :
    ∃ b off ra rc, a = some ⟨b, off, none⟩ ∧ w.cell? ⟨b, off + i, none⟩ = some (.slice ra (m.getD i []).length rc) ∧ SeenAt w ra rc (m.getD i []) := by
  obtain ⟨b, off, r, e, hc, ra, rc, hr, hs⟩ := h.row i hi
  subst hr
  exact ⟨b, off, ra, rc, e, hc, hs⟩

/-- The first place of n at which p holds, or -1. -/
def IdxPost (w : World) (n : Nat) (p : Nat → Prop) (e : Ending) (w' : World) : Prop :=
  ((e = .returned (.int .i64 (-1)) ∧ ∀ i, i < n → ¬ p i) ∨ ∃ j, j < n ∧ e = .returned (.int .i64 (j : Int)) ∧ p j ∧ ∀ i, i < j → ¬ p i) ∧ w = w'

theorem snd1_no (ra : Option Addr) (k rc : Nat) (cp : Addr) (w : World) (hc : w.cell? cp = some (.int .i64 (k : Int))) :
    Calls Try.prog 48 #[.slice ra k rc, .pointer (some cp)] w fun e w' => e = .returned (.bool false) ∧ w = w' := by
  have hd : ((k : Int) != (k : Int)) = false := by simp
  go_enter Try.func48, Try.ntmps48
  go_wp2
  go_ret
  exact ⟨rfl, rfl⟩

theorem snd1_yes (ra : Option Addr) (k l rc : Nat) (cp : Addr) (w : World) (hc : w.cell? cp = some (.int .i64 (k : Int))) (hl : l ≠ k) :
    Calls Try.prog 48 #[.slice ra l rc, .pointer (some cp)] w fun e w' => e = .returned (.bool true) ∧ w = w' := by
  have hd : ((l : Int) != (k : Int)) = true := by simp; omega
  go_enter Try.func48, Try.ntmps48
  go_wp2
  go_ret
  exact ⟨rfl, rfl⟩

set_option maxHeartbeats 1000000 in
theorem idx_snd (va : Option Addr) (vc k : Nat) (cp : Addr) (m : List (List Nat)) (w : World) (hG : GridAt w va vc m) (hc : w.cell? cp = some (.int .i64 (k : Int))) :
    Calls Try.prog 49 #[.slice va m.length vc, .func (.func 48) #[] #[.pointer (some cp)]] w (IdxPost w m.length fun i => (m.getD i []).length ≠ k) := by
  have hm := hG.max
  have hm' : m.length ≤ maxLen := Nat.le_trans hG.le hm
  unfold maxLen at hm'
  have HG := Lib.hid hG
  clear hm hG
  go_enter Try.func49, Try.ntmps49
  go_wp2
  go_loop [5, 8] (fun _ i => ∃ j : Nat, j ≤ m.length ∧ i = .int .i64 j ∧ Hid (∀ i, i < j → ¬ (m.getD i []).length ≠ k)) (fun _ i => m.length - (intOf i).toNat)
  case atStart => exact ⟨0, Nat.zero_le _, rfl, fun i hi => by omega⟩
  case round =>
    obtain ⟨j, hj, rfl, hN⟩ := hrel
    by_cases hlt : j < m.length
    · obtain ⟨b, off, ra, rc, e, hcr, hS⟩ := HG.out.at j hlt
      subst e
      have HP := Lib.hid hcr
      by_cases he : (m.getD j []).length = k
      · rw [he] at hcr
        have HE := Lib.hid he
        clear he hS
        go_wp2_with fail
        refine (snd1_no _ _ _ _ _ hc).mono ?_
        rintro e w' ⟨rfl, rfl⟩
        go_wp2
        go_round
        case rel =>
          refine ⟨j + 1, by omega, by go_num, fun i hi => ?_⟩
          by_cases e : i = j
          · subst e; exact fun h => h HE.out
          · exact hN.out i (by omega)
        case measure => simp [intOf]; omega
      · have HE := Lib.hid he
        clear he hS
        generalize hll : (m.getD j []).length = l at *
        have HL := Lib.hid hll
        clear hll
        go_wp2_with fail
        refine (snd1_yes _ _ _ _ _ _ hc HE.out).mono ?_
        rintro e w' ⟨rfl, rfl⟩
        go_wp2
        go_ret
        refine ⟨.inr ⟨j, hlt, rfl, ?_, hN.out⟩, rfl⟩
        show (m.getD j []).length ≠ k
        rw [HL.out]; exact HE.out
    · obtain rfl : j = m.length := by omega
      go_wp2
      go_ret
      exact ⟨.inl ⟨rfl, hN.out⟩, rfl⟩

theorem has_snd_no (va : Option Addr) (vc k : Nat) (cp : Addr) (m : List (List Nat)) (w : World) (hG : GridAt w va vc m) (hc : w.cell? cp = some (.int .i64 (k : Int))) (h : ∀ i, i < m.length → (m.getD i []).length = k) :
    Calls Try.prog 47 #[.slice va m.length vc, .func (.func 48) #[] #[.pointer (some cp)]] w fun e w' => e = .returned (.bool false) ∧ w = w' := by
  have HG := Lib.hid hG
  have HN := Lib.hid h
  clear hG h
  go_enter Try.func47, Try.ntmps47
  go_wp2_with fail
  refine (idx_snd _ _ _ _ _ _ HG.out hc).mono ?_
  rintro e w' ⟨⟨rfl, _⟩ | ⟨j, hj, rfl, hp, _⟩, rfl⟩
  · go_wp2
    go_ret
    exact ⟨rfl, rfl⟩
  · exact absurd (HN.out j hj) hp

theorem has_snd_yes (va : Option Addr) (vc k : Nat) (cp : Addr) (m : List (List Nat)) (w : World) (hG : GridAt w va vc m) (hc : w.cell? cp = some (.int .i64 (k : Int))) (h : ¬ ∀ i, i < m.length → (m.getD i []).length = k) :
    Calls Try.prog 47 #[.slice va m.length vc, .func (.func 48) #[] #[.pointer (some cp)]] w fun e w' => e = .returned (.bool true) ∧ w = w' := by
  have HG := Lib.hid hG
  have HN := Lib.hid h
  clear hG h
  go_enter Try.func47, Try.ntmps47
  go_wp2_with fail
  refine (idx_snd _ _ _ _ _ _ HG.out hc).mono ?_
  rintro e w' ⟨⟨rfl, hq⟩ | ⟨j, hj, rfl, hp, _⟩, rfl⟩
  · exact absurd (fun i hi => Decidable.byContradiction fun hn => hq i hi hn) HN.out
  · have h0 : (0 : Int) ≤ (j : Int) := by omega
    clear hp
    go_wp2
    go_ret
    exact ⟨rfl, rfl⟩

/-- Rows of one length, and some. -/
def Sd (m : List (List Nat)) : Prop := 0 < m.length ∧ 0 < (m.getD 0 []).length ∧ ∀ i, i < m.length → (m.getD i []).length = (m.getD 0 []).length

theorem cell_new (w : World) (v : Value) (t : TypeId) : (w.alloc (.cells #[v] t)).cell? ⟨w.heap.size, 0, none⟩ = some v := by
  rw [World.cell?_alloc_at (hn := rfl)]; rfl

set_option maxHeartbeats 1000000 in
theorem sound_yes (va : Option Addr) (vc : Nat) (m : List (List Nat)) (w : World) (hG : GridAt w va vc m) (h : Sd m) :
    Calls Try.prog 40 #[.slice va m.length vc] w fun e w' => e = .returned (.bool true) ∧ Below w.heap.size w w' := by
  obtain ⟨h1, h2, h3⟩ := h
  obtain ⟨b, off, ra, rc, e, hcr, _⟩ := hG.at 0 h1
  rw [Nat.add_zero] at hcr
  subst e
  have HG := Lib.hid hG
  have HN := Lib.hid h3
  have hm := Nat.le_trans hG.le hG.max
  unfold maxLen at hm
  clear hG h3
  generalize hk : (m.getD 0 []).length = k at *
  clear hk
  have t0 : ((m.length : Int) == 0) = false := by simp; intro h; rw [h] at h1; simp at h1
  have t1 : ((k : Int) == 0) = false := by simp; omega
  have hmf : ∀ (fn : Fn) (first cap : Array Value) (w : World), (Instr.makeFunc fn first cap).run Try.prog w = .ok (.func fn first cap) w := fun _ _ _ _ => rfl
  go_enter Try.func40, Try.ntmps40
  go_wp2_with fail
  refine (has_snd_no _ _ k _ m _ (HG.out.below (below_one _ _)) (cell_new _ _ _) HN.out).mono ?_
  rintro e w' ⟨rfl, rfl⟩
  go_wp2
  go_ret
  exact ⟨rfl, below_one _ _⟩

set_option maxHeartbeats 1000000 in
theorem sound_none (va : Option Addr) (vc : Nat) (w : World) :
    Calls Try.prog 40 #[.slice va 0 vc] w fun e w' => e = .returned (.bool false) ∧ w = w' := by
  go_enter Try.func40, Try.ntmps40
  go_wp2
  go_ret
  exact ⟨rfl, rfl⟩

set_option maxHeartbeats 1000000 in
theorem sound_empty (b off l vc rc : Nat) (ra : Option Addr) (w : World) (hl : 0 < l) (hc : w.cell? ⟨b, off, none⟩ = some (.slice ra 0 rc)) :
    Calls Try.prog 40 #[.slice (some ⟨b, off, none⟩) l vc] w fun e w' => e = .returned (.bool false) ∧ w = w' := by
  have t0 : ((l : Int) == 0) = false := by simp; omega
  go_enter Try.func40, Try.ntmps40
  go_wp2
  go_ret
  exact ⟨rfl, rfl⟩

set_option maxHeartbeats 1000000 in
theorem sound_ragged (va : Option Addr) (vc : Nat) (m : List (List Nat)) (w : World) (hG : GridAt w va vc m) (h1 : 0 < m.length) (h2 : 0 < (m.getD 0 []).length) (h3 : ¬ ∀ i, i < m.length → (m.getD i []).length = (m.getD 0 []).length) :
    Calls Try.prog 40 #[.slice va m.length vc] w fun e w' => e = .returned (.bool false) ∧ Below w.heap.size w w' := by
  obtain ⟨b, off, ra, rc, e, hcr, _⟩ := hG.at 0 h1
  rw [Nat.add_zero] at hcr
  subst e
  have HG := Lib.hid hG
  have HN := Lib.hid h3
  have hm := Nat.le_trans hG.le hG.max
  unfold maxLen at hm
  clear hG h3
  generalize hk : (m.getD 0 []).length = k at *
  clear hk
  have t0 : ((m.length : Int) == 0) = false := by simp; intro h; rw [h] at h1; simp at h1
  have t1 : ((k : Int) == 0) = false := by simp; omega
  have hmf : ∀ (fn : Fn) (first cap : Array Value) (w : World), (Instr.makeFunc fn first cap).run Try.prog w = .ok (.func fn first cap) w := fun _ _ _ _ => rfl
  go_enter Try.func40, Try.ntmps40
  go_wp2_with fail
  refine (has_snd_yes _ _ k _ m _ (HG.out.below (below_one _ _)) (cell_new _ _ _) HN.out).mono ?_
  rintro e w' ⟨rfl, rfl⟩
  go_wp2
  go_ret
  exact ⟨rfl, below_one _ _⟩

theorem sound_no (va : Option Addr) (vc : Nat) (m : List (List Nat)) (w : World) (hG : GridAt w va vc m) (h : ¬ Sd m) :
    Calls Try.prog 40 #[.slice va m.length vc] w fun e w' => e = .returned (.bool false) ∧ Below w.heap.size w w' := by
  by_cases h1 : 0 < m.length
  · by_cases h2 : 0 < (m.getD 0 []).length
    · exact sound_ragged va vc m w hG h1 h2 fun h3 => h ⟨h1, h2, h3⟩
    · obtain ⟨b, off, ra, rc, e, hcr, _⟩ := hG.at 0 h1
      rw [Nat.add_zero, show (m.getD 0 []).length = 0 by omega] at hcr
      subst e
      exact (sound_empty b off m.length vc rc ra w h1 hcr).mono fun e w' ⟨h, h'⟩ => by subst h'; exact ⟨h, Below.refl _ _⟩
  · rw [show m.length = 0 by omega]
    exact (sound_none va vc w).mono fun e w' ⟨h, h'⟩ => by subst h'; exact ⟨h, Below.refl _ _⟩

end Go.Proofs.Ytnhledngeicekaa
