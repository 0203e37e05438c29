/-
  Layer 3: rs.choose.
-/
import Derived.Test.YtnhledngeicekaaWalksS6
namespace Go.Proofs.Ytnhledngeicekaa
open Go.RowKit

/-- Every position is one of the code, every fragment as long as the first one. -/
def Good (n : Nat) (fs : List Fr) : Prop := ∀ i, i < fs.length → (0 ≤ (fs.getD i fr0).pos ∧ (fs.getD i fr0).pos < (n : Int)) ∧ (fs.getD i fr0).data.length = (fs.getD 0 fr0).data.length

/-- The first j of them are good. -/
def GoodTo (n : Nat) (fs : List Fr) (j : Nat) : Prop := ∀ q, q < j → (0 ≤ (fs.getD q fr0).pos ∧ (fs.getD q fr0).pos < (n : Int)) ∧ (fs.getD q fr0).data.length = (fs.getD 0 fr0).data.length

theorem GoodTo.more {n j : Nat} {fs : List Fr} (h : GoodTo n fs j) (h1 : 0 ≤ (fs.getD j fr0).pos ∧ (fs.getD j fr0).pos < (n : Int)) (h2 : (fs.getD j fr0).data.length = (fs.getD 0 fr0).data.length) : GoodTo n fs (j + 1) := by
  intro i hi
  by_cases e : i = j
  · subst e; exact ⟨h1, h2⟩
  · exact h i (by omega)

theorem ibne {a b : Nat} (h : a ≠ b) : ((a : Int) != (b : Int)) = true := by simp; omega
theorem ibeq {a b : Nat} (h : a = b) : ((a : Int) != (b : Int)) = false := by simp; omega

theorem isPos_yes (p : Int) (k m n : Nat) (hk : k ≤ 255) (hm : m ≤ 255) (hn : k + m = n) (h : 0 ≤ p ∧ p < (n : Int)) (w : World) :
    Calls Try.prog 31 #[.int .i64 p, .int .i64 (k : Int), .int .i64 (m : Int)] w fun e w' => e = .returned (.bool true) ∧ w = w' := by
  have := isPos_any p k m w hk hm
  rwa [show decide (0 ≤ p ∧ p < (k : Int) + (m : Int)) = true by simp; omega] at this

theorem isPos_no (p : Int) (k m n : Nat) (hk : k ≤ 255) (hm : m ≤ 255) (hn : k + m = n) (h : ¬ (0 ≤ p ∧ p < (n : Int))) (w : World) :
    Calls Try.prog 31 #[.int .i64 p, .int .i64 (k : Int), .int .i64 (m : Int)] w fun e w' => e = .returned (.bool false) ∧ w = w' := by
  have := isPos_any p k m w hk hm
  rwa [show decide (0 ≤ p ∧ p < (k : Int) + (m : Int)) = false by simp; omega] at this

/-- What choose hands back where the code is one. -/
def ChPost (w : World) (k n : Nat) (fs : List Fr) (e : Ending) (w' : World) : Prop :=
  Below w.heap.size w w' ∧
  ((¬ Good n fs ∧ e = .returned (.tuple #[.slice none 0 0, .int .i64 2])) ∨
   (Good n fs ∧ (firsts fs).length < k ∧ e = .returned (.tuple #[.slice none 0 0, .int .i64 10])) ∨
   (Good n fs ∧ k ≤ (firsts fs).length ∧ ∃ a cap, e = .returned (.tuple #[.slice a k cap, .int .i64 0]) ∧ FrsAt w' a cap ((firsts fs).take k)))

theorem choose_no (k m : Int) (v : Value) (w : World) (hk : (Lit.int .i64 k).wf = true) (h : ¬ May k m) :
    Calls Try.prog 29 #[.int .i64 k, .int .i64 m, v] w fun e w' => e = .returned (.tuple #[.slice none 0 0, .int .i64 3]) ∧ w = w' := by
  have HN := Lib.hid (fun w => allowed_no k m w hk h)
  clear hk h
  go_enter Try.func29, Try.ntmps29
  go_wp2_with fail
  refine (HN.out _).mono ?_
  rintro e w' ⟨rfl, rfl⟩
  go_wp2
  go_ret2
  exact ⟨rfl, rfl⟩

set_option maxRecDepth 100000 in
set_option maxHeartbeats 4000000 in
theorem choose_any (fa : Option Addr) (fc l k m n : Nat) (fs : List Fr) (w : World) (hF : FrsAt w fa fc fs) (hl : fs.length = l) (hl2 : l ≤ 100000000) (hk : 1 ≤ k) (hn : k + m = n) (hn2 : n ≤ 255) :
    Calls Try.prog 29 #[.int .i64 (k : Int), .int .i64 (m : Int), .slice fa l fc] w (ChPost w k n fs) := by
  have hzf := zeroFrag
  have HF := Lib.hid hF
  have HL := Lib.hid hl
  have HAY := Lib.hid (fun w => allowed_yes (k : Int) (m : Int) w ⟨by omega, by omega, by omega⟩)
  have hkk : k ≤ 255 := by omega
  have hmm : m ≤ 255 := by omega
  have HN := Lib.hid hn
  clear hF hl hn
  go_enter Try.func29, Try.ntmps29
  go_wp2_with fail
  refine (HAY.out _).mono ?_
  rintro e w' ⟨rfl, rfl⟩
  go_wp2
  go_loopw [9, 17] (fun _ i ws => ∃ j : Nat, j ≤ l ∧ i = .int .i64 j ∧ Hid (Below w.heap.size w ws) ∧ Hid (GoodTo n fs j)) (fun _ i _ => l - (intOf i).toNat)
  case atStart => exact ⟨0, Nat.zero_le _, rfl, Below.refl _ _, fun q hq => by omega⟩
  case round =>
    obtain ⟨j, hj, rfl, hb, hG⟩ := hrel
    have hbz := hb.out.size
    by_cases hlt : j < l
    · obtain ⟨b2, off2, e, hc0, hc1, hS⟩ := HF.out.el j (by rw [HL.out]; exact hlt)
      subst e
      obtain ⟨b3, off3, e, _, hz1, hS0⟩ := HF.out.el 0 (by rw [HL.out]; omega)
      cases e
      have hq0 := cell_later hb.out hc0
      have hq1 := cell_later hb.out hc1
      have hq2 := cell_later hb.out hz1
      rw [show off2 + 0 * 2 + 1 = off2 + 1 by omega] at hq2
      have hle := Nat.le_trans hS.le hS.max
      have hle0 := Nat.le_trans hS0.le hS0.max
      unfold maxLen at hle hle0
      have HWF := Lib.hid (HF.out.wf _ (getD_mem fs j fr0 (by rw [HL.out]; exact hlt)))
      clear hc0 hc1 hz1 hS hS0
      have j0 : (0 : Int) ≤ (j : Int) := by omega
      have j1 : (j : Int) < (l : Int) := by omega
      have l0 : (0 : Int) < (l : Int) := by omega
      by_cases hg1 : 0 ≤ (fs.getD j fr0).pos ∧ (fs.getD j fr0).pos < (n : Int)
      · have HIP := Lib.hid (isPos_yes _ k m n hkk hmm HN.out hg1)
        have HG1 := Lib.hid hg1
        clear hg1
        by_cases hg2 : (fs.getD j fr0).data.length = (fs.getD 0 fr0).data.length
        · have HG2 := Lib.hid (hG.out.more HG1.out hg2)
          rw [hg2] at hq1 hle
          have HBA := Lib.hid (fun o => hb.out.alloc hbz o)
          clear hg2
          generalize (fs.getD 0 fr0).data.length = q at *
          generalize (fs.getD j fr0).pos = p at *
          generalize (fs.getD j fr0).loc = la at *
          generalize (fs.getD j fr0).cap = lc at *
          generalize (fs.getD 0 fr0).loc = la0 at *
          generalize (fs.getD 0 fr0).cap = lc0 at *
          have t : ((q : Int) != (q : Int)) = false := by simp
          go_upto_region 6 with fail
          have hf0 : (wr.alloc (.cells #[.int .i64 p, .slice la q lc] 38)).cell? ⟨wr.heap.size, 0, none⟩ = some (.int .i64 p) := cell_pair0 _ _ _ _ _ rfl
          have hf1 : (wr.alloc (.cells #[.int .i64 p, .slice la q lc] 38)).cell? ⟨wr.heap.size, 1, none⟩ = some (.slice la q lc) := cell_pair1 _ _ _ _ _ rfl
          have hf2 := cell_later (below_one wr (.cells #[.int .i64 p, .slice la q lc] 38)) hq2
          have HBW := Lib.hid (HBA.out (.cells #[.int .i64 p, .slice la q lc] 38))
          generalize wr.alloc (.cells #[.int .i64 p, .slice la q lc] 38) = wq at *
          generalize wr.heap.size = FB at *
          clear hq0 hq1 hq2 hb
          go_quiet ((go_at_call 31; exact quiet_left' (HIP.out _)))
          go_wp2
          go_round
          case rel =>
            exact ⟨j + 1, by omega, by go_num, HBW.out.trans ((below_drewN _ _).mono HBW.out.size), HG2⟩
          case measure => simp [intOf]; omega
        · have HNG : Hid (¬ Good n fs) := fun h => hg2 (h j (by rw [HL.out]; exact hlt)).2
          have t : (((fs.getD j fr0).data.length : Int) != ((fs.getD 0 fr0).data.length : Int)) = true := ibne hg2
          have HBA := Lib.hid (fun o => hb.out.alloc hbz o)
          clear hg2
          generalize (fs.getD 0 fr0).data.length = q at *
          generalize (fs.getD j fr0).data.length = q' at *
          generalize (fs.getD j fr0).pos = p at *
          generalize (fs.getD j fr0).loc = la at *
          generalize (fs.getD j fr0).cap = lc at *
          generalize (fs.getD 0 fr0).loc = la0 at *
          generalize (fs.getD 0 fr0).cap = lc0 at *
          go_upto_region 6 with fail
          have hf0 : (wr.alloc (.cells #[.int .i64 p, .slice la q' lc] 38)).cell? ⟨wr.heap.size, 0, none⟩ = some (.int .i64 p) := cell_pair0 _ _ _ _ _ rfl
          have hf1 : (wr.alloc (.cells #[.int .i64 p, .slice la q' lc] 38)).cell? ⟨wr.heap.size, 1, none⟩ = some (.slice la q' lc) := cell_pair1 _ _ _ _ _ rfl
          have hf2 := cell_later (below_one wr (.cells #[.int .i64 p, .slice la q' lc] 38)) hq2
          have HBW := Lib.hid (HBA.out (.cells #[.int .i64 p, .slice la q' lc] 38))
          generalize wr.alloc (.cells #[.int .i64 p, .slice la q' lc] 38) = wq at *
          generalize wr.heap.size = FB at *
          clear hq0 hq1 hq2 hb
          go_quiet ((go_at_call 31; exact quiet_left' (HIP.out _)))
          go_wp2
          go_ret2
          exact ⟨HBW.out.trans ((below_drewN _ _).mono HBW.out.size), .inl ⟨HNG.out, rfl⟩⟩
      · have HNG : Hid (¬ Good n fs) := fun h => hg1 (h j (by rw [HL.out]; exact hlt)).1
        have HIP := Lib.hid (isPos_no _ k m n hkk hmm HN.out hg1)
        have HBA := Lib.hid (fun o => hb.out.alloc hbz o)
        clear hg1
        generalize (fs.getD 0 fr0).data.length = q at *
        generalize (fs.getD j fr0).data.length = q' at *
        generalize (fs.getD j fr0).pos = p at *
        generalize (fs.getD j fr0).loc = la at *
        generalize (fs.getD j fr0).cap = lc at *
        generalize (fs.getD 0 fr0).loc = la0 at *
        generalize (fs.getD 0 fr0).cap = lc0 at *
        go_upto_region 6 with fail
        have hf0 : (wr.alloc (.cells #[.int .i64 p, .slice la q' lc] 38)).cell? ⟨wr.heap.size, 0, none⟩ = some (.int .i64 p) := cell_pair0 _ _ _ _ _ rfl
        have HBW := Lib.hid (HBA.out (.cells #[.int .i64 p, .slice la q' lc] 38))
        generalize wr.alloc (.cells #[.int .i64 p, .slice la q' lc] 38) = wq at *
        generalize wr.heap.size = FB at *
        clear hq0 hq1 hq2 hb
        go_quiet ((go_at_call 31; exact quiet_left' (HIP.out _)))
        go_wp2
        go_ret2
        exact ⟨HBW.out.trans ((below_drewN _ _).mono HBW.out.size), .inl ⟨HNG.out, rfl⟩⟩
    · obtain rfl : j = l := by omega
      have HGD : Hid (Good n fs) := fun i hi => hG.out i (by rw [HL.out] at hi; exact hi)
      clear hG
      have HP : Hid (∀ f ∈ fs, 0 ≤ f.pos ∧ f.pos < 255) := fun f hf => by
        obtain ⟨i, hi, e⟩ := List.mem_iff_getElem.mp hf
        have := (HGD.out i hi).1
        rw [List.getD_eq_getElem?_getD, List.getElem?_eq_getElem hi] at this
        have h2 : (some (fs[i])).getD fr0 = f := e
        rw [h2] at this
        omega
      have HF2 := Lib.hid (HF.out.below hb.out)
      go_wp2_with fail
      refine (firstOf_any _ _ j fs _ HF2.out HL.out hl2 HP.out).mono ?_
      rintro e w2 ⟨a, r, cap, rfl, hr, hFr, hb2⟩
      have HB2 := Lib.hid (hb.out.trans (hb2.mono hb.out.size))
      have hrc := hFr.le
      have hcm := hFr.max
      rw [hr] at hrc
      unfold maxLen at hcm
      have HR := Lib.hid hr
      have HFR := Lib.hid hFr
      clear hb2
      by_cases hlk : r < k
      · have d1 : decide ((r : Int) < (k : Int)) = true := by simp; omega
        have d2 : decide (r < k) = true := by simp; omega
        clear hr hFr
        go_wp2
        go_ret2
        exact ⟨HB2.out, .inr (.inl ⟨HGD.out, by rw [HR.out]; exact hlk, rfl⟩)⟩
      · have d1 : decide ((r : Int) < (k : Int)) = false := by simp; omega
        have d2 : decide (r < k) = false := by simp; omega
        obtain ⟨b5, off5, e, _, _, _⟩ := hFr.el 0 (by rw [hr]; omega)
        subst e
        clear hr hFr
        go_wp2
        go_ret2
        exact ⟨HB2.out, .inr (.inr ⟨HGD.out, by rw [HR.out]; omega, _, _, rfl, HFR.out.take k⟩)⟩

end Go.Proofs.Ytnhledngeicekaa
