/-
  Layer 3: the reference's First.
-/
import Derived.Test.YtnhledngeicekaaWalksS6
namespace Go.Proofs.Ytnhledngeicekaa
open Go.RowKit

/-- What First hands back. -/
def FirPost (w : World) (k : Nat) (fs : List Fr) (e : Ending) (w' : World) : Prop :=
  ∃ a n cap, e = .returned (.slice a n cap) ∧ ((firsts fs).take k).length = n ∧ FrsAt w' a cap ((firsts fs).take k) ∧ Below w.heap.size w w'

/-- Is the position among the first c? -/
def has1 (p : Int) (fk : List Fr) (c : Nat) : Bool := decide (p ∈ poss (fk.take c))
theorem has1_zero (p : Int) (fk : List Fr) : has1 p fk 0 = false := by simp [has1, poss]
theorem has1_succ (p : Int) (fk : List Fr) (c : Nat) (h : c < fk.length) : has1 p fk (c + 1) = (has1 p fk c || ((fk.getD c fr0).pos == p)) := by
  unfold has1
  rw [take_snoc fk c fr0 h]
  have e : poss (fk.take c ++ [fk.getD c fr0]) = poss (fk.take c) ++ [(fk.getD c fr0).pos] := by simp [poss]
  rw [e]
  clear e
  generalize (fk.getD c fr0).pos = q
  by_cases h1 : p ∈ poss (fk.take c)
  · simp [h1]
  · by_cases h2 : p = q
    · subst h2; simp
    · have h3 : (q == p) = false := by simp; exact fun e => h2 e.symm
      rw [h3]
      simp [h1, h2]
theorem has1_all (p : Int) (fk : List Fr) : has1 p fk fk.length = decide (p ∈ poss fk) := by unfold has1; rw [List.take_of_length_le (Nat.le_refl _)]

theorem take_firsts (fs : List Fr) (j k n : Nat) (h : (firsts (fs.take j)).length = n) (hk : n ≤ k) (hj : j = fs.length ∨ n = k) : (firsts fs).take k = firsts (fs.take j) := by
  rcases hj with hj | hj
  · subst hj
    rw [List.take_of_length_le (Nat.le_refl fs.length)] at h ⊢
    exact List.take_of_length_le (by omega)
  · obtain ⟨gs, e⟩ := firsts_prefix fs j
    rw [e, List.take_append_of_le_length (by omega)]
    exact List.take_of_length_le (by omega)

set_option maxRecDepth 100000 in
set_option maxHeartbeats 8000000 in
theorem first_any (fa : Option Addr) (fc l k : Nat) (fs : List Fr) (w : World) (hF : FrsAt w fa fc fs) (hl : fs.length = l) (hl2 : l ≤ 100000000) (hk : k ≤ 255) :
    Calls Try.prog 22 #[.int .i64 (k : Int), .slice fa l fc] w (FirPost w k fs) := by
  have HF := Lib.hid hF
  have HL := Lib.hid hl
  clear hF hl
  have HS0 := Lib.hid (oldF_none w w (Nat.le_refl _))
  go_enter Try.func22, Try.ntmps22
  go_wp2
  go_loopw [5, 6, 7, 8] (fun s i _ _ ws => ∃ (j n g cap : Nat), j ≤ l ∧ n ≤ j ∧ n ≤ k ∧ i = .int .i64 j ∧ s = .slice (some ⟨g, 0, none⟩) n cap ∧ Hid (OldF w ws (.slice (some ⟨g, 0, none⟩) n cap) (firsts (fs.take j))) ∧ Hid (Below w.heap.size w ws) ∧ Hid ((firsts (fs.take j)).length = n)) (fun _ i _ _ _ => l - (intOf i).toNat)
  case atStart => exact ⟨0, 0, _, _, Nat.zero_le _, Nat.zero_le _, Nat.zero_le _, rfl, rfl, HS0, below_one _ _, rfl⟩
  case round =>
    obtain ⟨j, n, g, cap, hj, hnj, hnk, rfl, rfl, hR, hb, hN⟩ := hrel
    have hbz := hb.out.size
    by_cases hlt : j < l
    · have dj : decide ((j : Int) < (l : Int)) = true := by simp; omega
      by_cases hnk2 : n < k
      · obtain ⟨b2, off2, e, hc0, hc1, hS⟩ := HF.out.el j (by rw [HL.out]; exact hlt)
        subst e
        have HQ0 := Lib.hid (cell_later hb.out hc0)
        have HQ1 := Lib.hid (cell_later hb.out hc1)
        have HWF := Lib.hid (HF.out.wf _ (getD_mem fs j fr0 (by rw [HL.out]; exact hlt)))
        have HS := Lib.hid hS
        have HSTEP := Lib.hid (firsts_step fs j (by rw [HL.out]; exact hlt))
        have HFR := Lib.hid (hR.out.frs hb.out).2
        clear hc0 hc1 hS
        generalize fs.getD j fr0 = f at *
        generalize hfk : firsts (fs.take j) = fk at *
        have HFK := Lib.hid hfk
        clear hfk
        have dn : decide ((n : Int) < (k : Int)) = true := by simp; omega
        have dn2 : decide (n < k) = true := by simp; omega
        generalize wr = wo at *
        go_wp2
        clear dn dn2 dj
        go_loopw [7, 8] (fun t i ws => ∃ c m : Nat, c ≤ n ∧ i = .int .i64 c ∧ t = .bool (has1 f.pos fk c) ∧ ws = wo.drewN m) (fun _ i _ => n - (intOf i).toNat)
        case atStart => exact ⟨0, 0, Nat.zero_le _, rfl, by rw [has1_zero], rfl⟩
        case round =>
          obtain ⟨c, m, hc, rfl, rfl, hws⟩ := hrel
          have HW := Lib.hid hws
          by_cases hlc : c < n
          · obtain ⟨b3, off3, e, hd0, _, _⟩ := HFR.out.el c (by rw [hN.out]; exact hlc)
            cases e
            rw [Nat.zero_add] at hd0
            have hx0 : wr.cell? ⟨g, c * 2, none⟩ = some (.int .i64 (fk.getD c fr0).pos) := by rw [hws]; exact hd0
            have hx1 : wr.cell? ⟨b2, off2 + j * 2, none⟩ = some (.int .i64 f.pos) := by rw [hws]; exact HQ0.out
            have HSU := Lib.hid (has1_succ f.pos fk c (by rw [hN.out]; exact hlc))
            have i0 : (0 : Int) ≤ (c : Int) := by omega
            have i1 : (c : Int) < (n : Int) := by omega
            have i2 : (0 : Int) ≤ (j : Int) := by omega
            have i3 : (j : Int) < (l : Int) := by omega
            clear hws hd0
            cases hth : has1 f.pos fk c with
            | true =>
              have HT : Hid (has1 f.pos fk (c + 1) = true) := by show _ = _; rw [HSU.out, hth]; rfl
              clear hth
              go_wp2
              go_quiet (fail)
              go_wp2
              go_round
              case rel => exact ⟨c + 1, m + nq, by omega, by go_num, by rw [HT.out], by rw [HW.out, World.drewN_drewN]⟩
              case measure => simp [intOf]; omega
            | false =>
              cases heq : (fk.getD c fr0).pos == f.pos with
              | true =>
                have HT : Hid (has1 f.pos fk (c + 1) = true) := by show _ = _; rw [HSU.out, hth, heq]; rfl
                clear hth
                generalize (fk.getD c fr0).pos = p' at *
                go_wp2
                go_quiet (fail)
                go_wp2
                go_round
                case rel => exact ⟨c + 1, m + nq, by omega, by go_num, by rw [HT.out], by rw [HW.out, World.drewN_drewN]⟩
                case measure => simp [intOf]; omega
              | false =>
                have HT : Hid (has1 f.pos fk (c + 1) = false) := by show _ = _; rw [HSU.out, hth, heq]; rfl
                clear hth
                generalize (fk.getD c fr0).pos = p' at *
                go_wp2
                go_quiet (fail)
                go_wp2
                go_round
                case rel => exact ⟨c + 1, m + nq, by omega, by go_num, by rw [HT.out], by rw [HW.out, World.drewN_drewN]⟩
                case measure => simp [intOf]; omega
          · obtain rfl : c = n := by omega
            have HAL : Hid (has1 f.pos fk c = decide (f.pos ∈ poss fk)) := by show _ = _; rw [← hN.out]; exact has1_all f.pos fk
            have hBW : Below w.heap.size w wr := by rw [hws]; exact hb.out.trans ((below_drewN _ _).mono hbz)
            have HBW := Lib.hid hBW
            have HRW : Hid (OldF w wr (.slice (some ⟨g, 0, none⟩) c cap) fk) := by show OldF _ _ _ _; rw [hws]; exact hR.out.below (below_drewN _ _)
            have hx0 : wr.cell? ⟨b2, off2 + j * 2, none⟩ = some (.int .i64 f.pos) := by rw [hws]; exact HQ0.out
            have hx1 : wr.cell? ⟨b2, off2 + j * 2 + 1, none⟩ = some (.slice f.loc f.data.length f.cap) := by rw [hws]; exact HQ1.out
            have hwz := hBW.size
            clear hws hBW HW
            have i2 : (0 : Int) ≤ (j : Int) := by omega
            have i3 : (j : Int) < (l : Int) := by omega
            by_cases hin : f.pos ∈ poss fk
            · have HE := Lib.hid (fst1_same hin)
              rw [HAL.out, show decide (f.pos ∈ poss fk) = true by simpa using hin]
              clear hin
              go_wp2
              go_round
              case rel => exact ⟨j + 1, c, g, cap, by omega, by omega, by omega, by go_num, rfl, by rw [HSTEP.out, HE.out]; exact HRW, HBW, by rw [HSTEP.out, HE.out]; exact hN⟩
              case measure => simp [intOf]; omega
            · have HNI := Lib.hid hin
              rw [HAL.out, show decide (f.pos ∈ poss fk) = false by simpa using hin]
              clear hin
              have HOL : Hid (∀ o, OldF w (wr.alloc o) (.slice (some ⟨g, 0, none⟩) c cap) fk) := fun o => HRW.out.below (below_one _ _)
              have HBL : Hid (∀ o, Below w.heap.size w (wr.alloc o)) := fun o => HBW.out.alloc hwz o
              go_wp2_with (at_builtin; refine wpList_appF (w0 := w) rfl (.tmp 44) (.tmp 49) rfl (.slice (some ⟨g, 0, none⟩) c cap) fk c hN.out rfl (HOL.out _) f HS.out HWF.out _ _ rfl (cell_pair0 _ _ _ _ _ rfl) (cell_pair1 _ _ _ _ _ rfl) (by omega) (by simp; omega) ?_; intro g2 c2 w2 hF2 hg2 hat2)
              have HBB := Lib.hid (below_grown (HOL.out _) (HBL.out _) hg2)
              have HFE : Hid (fst1 fk f = fk ++ [f]) := by show _ = _; unfold fst1; rw [if_neg (by simpa [poss] using HNI.out)]
              have HLN : Hid ((fst1 fk f).length = c + 1) := by
                show _ = _
                rw [HFE.out, List.length_append, hN.out]
                rfl
              go_round
              case rel => exact ⟨j + 1, c + 1, g2, c2, by omega, by omega, by omega, by go_num, rfl, by rw [HSTEP.out, HFE.out]; exact hF2, HBB, by rw [HSTEP.out]; exact HLN⟩
              case measure => simp [intOf]; omega
      · have dn : decide ((n : Int) < (k : Int)) = false := by simp; omega
        have dn2 : decide (n < k) = false := by simp; omega
        have HFR := Lib.hid (hR.out.frs hb.out)
        have HTF := Lib.hid (take_firsts fs j k n hN.out hnk (.inr (by omega)))
        go_wp2
        go_ret
        exact ⟨_, _, _, rfl, by rw [HTF.out]; exact hN.out, by rw [HTF.out]; exact HFR.out.2, hb.out⟩
    · have dj : decide ((j : Int) < (l : Int)) = false := by simp; omega
      have dj2 : decide (j < l) = false := by simp; omega
      have HFR := Lib.hid (hR.out.frs hb.out)
      have HTF := Lib.hid (take_firsts fs j k n hN.out hnk (.inl (by rw [HL.out]; omega)))
      go_wp2
      go_ret
      exact ⟨_, _, _, rfl, by rw [HTF.out]; exact hN.out, by rw [HTF.out]; exact HFR.out.2, hb.out⟩

end Go.Proofs.Ytnhledngeicekaa
