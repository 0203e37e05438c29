/-
  Layer 3: rs.firstOfEach, rs.choose.
-/
import Derived.Test.YtnhledngeicekaaWalksS5
namespace Go.Proofs.Ytnhledngeicekaa
open Go.RowKit

theorem zeroSeen (w : World) : (zeroValue 72).run Try.prog w = .ok (.agg (Array.replicate 255 (.bool false))) w := by kernel_rfl

theorem chg_set (w : World) (b i : Nat) (v : Value) : Chg [b] w (w.setCell ⟨b, i, none⟩ v) :=
  ⟨rfl, rfl, rfl, by simp [World.setCell], fun k _ hk => Below.heap_setCell _ _ _ _ (by simpa using hk)⟩

theorem cell_pair0 (w : World) (u v : Value) (t : TypeId) (n : Nat) (h : w.heap.size = n) : (w.alloc (.cells #[u, v] t)).cell? ⟨n, 0, none⟩ = some u := by
  subst h
  rw [World.cell?_alloc_at (hn := rfl)]; rfl
theorem cell_pair1 (w : World) (u v : Value) (t : TypeId) (n : Nat) (h : w.heap.size = n) : (w.alloc (.cells #[u, v] t)).cell? ⟨n, 1, none⟩ = some v := by
  subst h
  rw [World.cell?_alloc_at (hn := rfl)]; rfl

/-- While the first fragments are picked: B is the block of what was seen. -/
structure Fst (w ws : World) (B : Nat) (v : Value) (fs : List Fr) : Prop where
  list : OldF w ws v fs
  seen : ws.rowIs B 72 255 (fun q => .bool (decide ((q : Int) ∈ poss fs)))
  ne : ∀ g, v.ownBlock = some g → g ≠ B

theorem fst_start (w : World) : Fst w (w.alloc (.cells (Array.replicate 255 (.bool false)) 72)) w.heap.size (.slice none 0 0) [] where
  list := oldF_nil _ _
  seen := by
    have := World.rowIs_alloc w (Array.replicate 255 (.bool false)) 72 (fun q => .bool (decide ((q : Int) ∈ poss []))) (fun i hi => by
      rw [Array.getElem?_eq_getElem hi]; simp [poss])
    simpa using this
  ne g hg := by simp [Value.ownBlock] at hg

theorem Fst.alloc {w ws : World} {B : Nat} {v : Value} {fs : List Fr} (h : Fst w ws B v fs) (o : Obj) : Fst w (ws.alloc o) B v fs :=
  ⟨h.list.chg (gs := []) ((Chg.refl _ _).alloc o) (by simp), h.seen.alloc o, h.ne⟩

/-- A fragment more. -/
theorem Fst.step {w ws w2 : World} {B p g2 c2 n : Nat} {v : Value} {fs : List Fr} {f : Fr} (h : Fst w ws B v fs) (o1 o2 : Obj) (hp : f.pos = (p : Int)) (hn : ¬ f.pos ∈ poss fs)
    (hF : OldF w w2 (.slice (some ⟨g2, 0, none⟩) n c2) (fs ++ [f])) (hg : (((ws.setCell ⟨B, p, none⟩ (.bool true)).alloc o1).alloc o2).grownBy w2 v.ownBlock)
    (hat : v.ownBlock = some g2 ∨ (((ws.setCell ⟨B, p, none⟩ (.bool true)).alloc o1).alloc o2).heap.size ≤ g2) : Fst w w2 B (.slice (some ⟨g2, 0, none⟩) n c2) (fst1 fs f) := by
  have e : fst1 fs f = fs ++ [f] := by unfold fst1; rw [if_neg (by simpa [poss] using hn)]
  rw [e]
  have hB := h.seen.lt
  refine ⟨hF, ?_, fun g hg' => ?_⟩
  · refine (((((h.seen.set p (.bool true)).alloc o1).alloc o2).of_block (hg.block B (by simp [World.setCell]; omega) (fun e => h.ne B e.symm rfl))).congr fun i hi => ?_)
    by_cases ei : i = p
    · rw [if_pos ei]; simp [poss, hp, ei]
    · rw [if_neg ei]
      have : ((i : Int) = f.pos) = False := by rw [hp]; simp; omega
      simp [poss, this]
  · have e2 : g = g2 := by simpa [Value.ownBlock] using hg'.symm
    subst e2
    rcases hat with hat | hat
    · exact h.ne g hat
    · simp [World.setCell] at hat; omega

theorem fst1_same {fs : List Fr} {f : Fr} (h : f.pos ∈ poss fs) : fst1 fs f = fs := by
  unfold fst1; rw [if_pos (by simpa [poss] using h)]

/-- What firstOfEach hands back. -/
def FstPost (w : World) (fs : List Fr) (e : Ending) (w' : World) : Prop :=
  ∃ a n cap, e = .returned (.slice a n cap) ∧ (firsts fs).length = n ∧ FrsAt w' a cap (firsts fs) ∧ Below w.heap.size w w'

set_option maxRecDepth 100000 in
set_option maxHeartbeats 4000000 in
theorem firstOf_any (fa : Option Addr) (fc l : Nat) (fs : List Fr) (w : World) (hF : FrsAt w fa fc fs) (hl : fs.length = l) (hl2 : l ≤ 100000000) (hp : ∀ f ∈ fs, 0 ≤ f.pos ∧ f.pos < 255) :
    Calls Try.prog 35 #[.slice fa l fc] w (FstPost w fs) := by
  have hzf := zeroFrag
  have hzs := zeroSeen
  have HF := Lib.hid hF
  have HL := Lib.hid hl
  have HP := Lib.hid hp
  clear hF hl hp
  have HST := Lib.hid (fst_start w)
  have HB0 : Hid (Below w.heap.size w (w.alloc (.cells (Array.replicate 255 (.bool false)) 72))) := below_one _ _
  go_enter Try.func35, Try.ntmps35
  obtain ⟨B, hB⟩ : ∃ B, B = w.heap.size := ⟨_, rfl⟩
  rw [← hB] at HST
  generalize hrep : Array.replicate 255 (Value.bool false) = rep at *
  clear hrep
  go_wp2
  rw [← hB]
  have hwB : w.heap.size ≤ B := by omega
  clear hB hzs
  go_loopw [4, 6, 9] (fun s _ i ws => ∃ (j n cap : Nat) (a : Option Addr), j ≤ l ∧ n ≤ j ∧ i = .int .i64 j ∧ s = .slice a n cap ∧ Hid (Fst w ws B (.slice a n cap) (firsts (fs.take j))) ∧ Hid (Below w.heap.size w ws) ∧ Hid ((firsts (fs.take j)).length = n)) (fun _ _ i _ => l - (intOf i).toNat)
  case atStart => exact ⟨0, 0, 0, none, Nat.zero_le _, Nat.zero_le _, rfl, rfl, HST, HB0, rfl⟩
  case round =>
    obtain ⟨j, n, cap, a, hj, hnj, rfl, rfl, hR, hb, hN⟩ := hrel
    have hbz := hb.out.size
    by_cases hlt : j < l
    · obtain ⟨b2, off2, e, hc0, hc1, hS⟩ := HF.out.el j (by rw [HL.out]; exact hlt)
      subst e
      have hq0 := cell_later hb.out hc0
      have hq1 := cell_later hb.out hc1
      have hpp := HP.out _ (getD_mem fs j fr0 (by rw [HL.out]; exact hlt))
      have HWF := Lib.hid (HF.out.wf _ (getD_mem fs j fr0 (by rw [HL.out]; exact hlt)))
      have HS := Lib.hid hS
      have HSTEP := Lib.hid (firsts_step fs j (by rw [HL.out]; exact hlt))
      clear hc0 hc1 hS
      obtain ⟨p, hpn⟩ : ∃ p : Nat, (fs.getD j fr0).pos = (p : Int) := ⟨(fs.getD j fr0).pos.toNat, by omega⟩
      rw [hpn] at hq0 hpp
      have HPN := Lib.hid hpn
      clear hpn
      have hp2 : p < 255 := by omega
      have p0 : (0 : Int) ≤ (p : Int) := by omega
      have p1 : (p : Int) < 255 := by omega
      have j0 : (0 : Int) ≤ (j : Int) := by omega
      have j1 : (j : Int) < (l : Int) := by omega
      have hcs := hR.out.seen.cell hp2
      obtain ⟨hcs1, hfs1⟩ := after_alloc hcs (hR.out.seen.frozen p)
      have hlB := hR.out.seen.lt
      have hn1 : wr.heap.size ≠ B := by omega
      generalize fs.getD j fr0 = f at *
      generalize hfk : firsts (fs.take j) = fk at *
      by_cases hin : f.pos ∈ poss fk
      · have hd : decide ((p : Int) ∈ poss fk) = true := by rw [← HPN.out]; simpa using hin
        rw [hd] at hcs
        simp only [hd] at hcs1
        have HE := Lib.hid (fst1_same hin)
        have HAL := Lib.hid (fun o => hR.out.alloc o)
        have HBL := Lib.hid (fun o => hb.out.alloc hbz o)
        clear hd hin
        go_wp2
        go_round
        case rel => exact ⟨j + 1, n, cap, a, by omega, by omega, by go_num, rfl, by rw [HSTEP.out, HE.out]; exact HAL.out _, HBL.out _, by rw [HSTEP.out, HE.out]; exact hN⟩
        case measure => simp [intOf]; omega
      · have hd : decide ((p : Int) ∈ poss fk) = false := by rw [← HPN.out]; simpa using hin
        rw [hd] at hcs
        simp only [hd] at hcs1
        have HNI := Lib.hid hin
        have HOL : Hid (∀ o1 o2, OldF w (((wr.setCell ⟨B, p, none⟩ (.bool true)).alloc o1).alloc o2) (.slice a n cap) fk) := fun o1 o2 =>
          ((hR.out.list.chg (chg_set _ B p _) (fun g hg => by simpa using hR.out.ne g hg)).below (below_one _ _)).below (below_one _ _)
        have HBL : Hid (∀ o1 o2, Below w.heap.size w (((wr.setCell ⟨B, p, none⟩ (.bool true)).alloc o1).alloc o2)) := fun o1 o2 =>
          ((hb.out.setCell hwB _).alloc (by simp [World.setCell]; omega) o1).alloc (by simp [World.setCell]; omega) o2
        clear hd hin
        go_wp2_with (at_builtin; refine wpList_appF (w0 := w) rfl (.tmp 21) (.tmp 23) rfl (.slice a n cap) fk n hN.out rfl (HOL.out _ _) f HS.out HWF.out _ _ rfl (by rw [HPN.out]; exact cell_pair0 _ _ _ _ _ (by simp [World.setCell])) (cell_pair1 _ _ _ _ _ (by simp [World.setCell])) (by omega) (by simp [World.setCell]; omega) ?_; intro g2 c2 w2 hF2 hg2 hat2)
        have HFS := Lib.hid (hR.out.step _ _ HPN.out HNI.out hF2 hg2 hat2)
        have HBB := Lib.hid (below_grown (HOL.out _ _) (HBL.out _ _) hg2)
        have HLN : Hid ((fst1 fk f).length = n + 1) := by
          show _ = _
          unfold fst1
          rw [if_neg (by simpa [poss] using HNI.out), List.length_append, hN.out]
          rfl
        go_round
        case rel => exact ⟨j + 1, n + 1, c2, _, by omega, by omega, by go_num, rfl, by rw [HSTEP.out]; exact HFS, HBB, by rw [HSTEP.out]; exact HLN⟩
        case measure => simp [intOf]; omega
    · obtain rfl : j = l := by omega
      have HFR := Lib.hid (hR.out.list.frs hb.out)
      have HTK : Hid (firsts (fs.take j) = firsts fs) := by show _ = _; rw [List.take_of_length_le (by rw [HL.out]; omega)]
      rw [HTK.out] at HFR hN
      go_wp2
      go_ret
      exact ⟨_, _, _, rfl, hN.out, HFR.out.2, hb.out⟩

end Go.Proofs.Ytnhledngeicekaa
