/-
  Layer 3: rs.restored.
-/
import Derived.Test.YtnhledngeicekaaWalksS4
namespace Go.Proofs.Ytnhledngeicekaa
open Go.RowKit

theorem zeroFrag (w : World) : (zeroValue 38).run Try.prog w = .ok (.agg #[.int .i64 0, .slice none 0 0]) w := by kernel_rfl

/-- Positions as plain numbers. -/
def nposs (fs : List Fr) : List Nat := fs.map fun f => f.pos.toNat
theorem nposs_len (fs : List Fr) : (nposs fs).length = fs.length := by simp [nposs]
theorem nposs_get (fs : List Fr) (i : Nat) (h : i < fs.length) : (nposs fs).getD i 0 = (fs.getD i fr0).pos.toNat := by simp [nposs, h]

theorem nposs_nodup (fs : List Fr) (hp : ∀ f ∈ fs, 0 ≤ f.pos) (hd : (poss fs).Nodup) : (nposs fs).Nodup := by
  induction fs with
  | nil => simp [nposs]
  | cons f fs ih =>
    have hd' : f.pos ∉ poss fs ∧ (poss fs).Nodup := List.nodup_cons.mp hd
    have h2 := ih (fun e he => hp e (List.mem_cons_of_mem _ he)) hd'.2
    refine List.nodup_cons.mpr ⟨fun h => hd'.1 ?_, h2⟩
    obtain ⟨e, he, ee⟩ := List.mem_map.mp h
    have h1 := hp f (List.mem_cons_self ..)
    have h3 := hp e (List.mem_cons_of_mem _ he)
    have ee' : e.pos.toNat = f.pos.toNat := ee
    exact List.mem_map.mpr ⟨e, he, show e.pos = f.pos by omega⟩

/-- The chosen rows of the code. -/
def crows (C : List (List Nat)) (fs : List Fr) : List (List Nat) := (nposs fs).map fun p => C.getD p []
theorem crows_len (C : List (List Nat)) (fs : List Fr) : (crows C fs).length = fs.length := by simp [crows, nposs_len]
theorem crows_row (C : List (List Nat)) (fs : List Fr) (i : Nat) (h : i < fs.length) : (crows C fs).getD i [] = C.getD (fs.getD i fr0).pos.toNat [] := by
  simp [crows, nposs, h]

/-- What restored hands back. -/
def RestPost (w : World) (k : Nat) (C : List (List Nat)) (fs : List Fr) (e : Ending) (w' : World) : Prop :=
  ∃ X, Mt.Sq k X ∧ Mt.InvOf k (crows C fs) X ∧ RetG w k (mprod X (dats fs)) e w'

/-- While the rows are chosen. -/
structure Rst (w w' : World) (GR GD k j : Nat) (C : List (List Nat)) (fs R D : List Fr) : Prop where
  rows : OldG w w' GR k R
  data : OldG w w' GD k D
  lr : R.length = k
  ld : D.length = k
  done : ∀ q, q < j → (R.getD q fr0).data = C.getD (fs.getD q fr0).pos.toNat [] ∧ (D.getD q fr0).data = (fs.getD q fr0).data

theorem rst_start (w : World) (k : Nat) (C : List (List Nat)) (fs : List Fr) (hk : k ≤ maxLen) :
    Rst w ((w.alloc (.cells (madeCells #[.slice none 0 0] k) 28)).alloc (.cells (madeCells #[.slice none 0 0] k) 28)) w.heap.size (w.heap.size + 1) k 0 C fs (List.replicate k fr0) (List.replicate k fr0) where
  rows := (oldG_made w w k (Nat.le_refl _) hk).chg (gs := []) ((Chg.refl _ _).alloc _) (by simp)
  data := by
    have := oldG_made w (w.alloc (.cells (madeCells #[.slice none 0 0] k) 28)) k (by simp) hk
    simpa using this
  lr := by simp
  ld := by simp
  done q hq := by omega

theorem Rst.step {w w' : World} {GR GD k j : Nat} {C : List (List Nat)} {fs R D : List Fr} (h : Rst w w' GR GD k j C fs R D) (hj : j < k) (hne : GR ≠ GD) (o : Obj) (fr fd : Fr) (h1 : SeenAt w fr.loc fr.cap fr.data) (h2 : SeenAt w fd.loc fd.cap fd.data)
    (e1 : fr.data = C.getD (fs.getD j fr0).pos.toNat []) (e2 : fd.data = (fs.getD j fr0).data) :
    Rst w (((w'.alloc o).setCell ⟨GR, j, none⟩ (.slice fr.loc fr.data.length fr.cap)).setCell ⟨GD, j, none⟩ (.slice fd.loc fd.data.length fd.cap)) GR GD k (j + 1) C fs (R.set j fr) (D.set j fd) ∧
    Chg [GR, GD] w' (((w'.alloc o).setCell ⟨GR, j, none⟩ (.slice fr.loc fr.data.length fr.cap)).setCell ⟨GD, j, none⟩ (.slice fd.loc fd.data.length fd.cap)) := by
  have c0 : Chg [] w' (w'.alloc o) := (Chg.refl _ _).alloc o
  obtain ⟨a1, a2⟩ := (h.rows.chg c0 (by simp)).stored j fr h1
  obtain ⟨b1, b2⟩ := ((h.data.chg c0 (by simp)).chg a2 (by simp; exact fun e => hne e.symm)).stored j fd h2
  refine ⟨⟨a1.chg b2 (by simpa using hne), b1, by simp [h.lr], by simp [h.ld], fun q hq => ?_⟩, (c0.mono (by simp)).trans ((a2.mono (by simp)).trans (b2.mono (by simp)))⟩
  by_cases e : q = j
  · subst e
    rw [getD_set_eq _ _ _ _ (by rw [h.lr]; exact hj), getD_set_eq _ _ _ _ (by rw [h.ld]; exact hj)]
    exact ⟨e1, e2⟩
  · rw [getD_set_ne _ _ _ _ _ e, getD_set_ne _ _ _ _ _ e]
    exact h.done q (by omega)

theorem Rst.all {w w' : World} {GR GD k : Nat} {C : List (List Nat)} {fs R D : List Fr} (h : Rst w w' GR GD k k C fs R D) (hl : fs.length = k) : dats R = crows C fs ∧ dats D = dats fs := by
  constructor
  · refine getD_congr _ _ [] (by rw [dats_len, crows_len, h.lr, hl]) fun i hi => ?_
    rw [dats_len, h.lr] at hi
    rw [dats_row R i (by rw [h.lr]; exact hi), crows_row C fs i (by omega), (h.done i hi).1]
  · refine getD_congr _ _ [] (by rw [dats_len, dats_len, h.ld, hl]) fun i hi => ?_
    rw [dats_len, h.ld] at hi
    rw [dats_row D i (by rw [h.ld]; exact hi), dats_row fs i (by omega), (h.done i hi).2]

set_option maxRecDepth 100000 in
set_option maxHeartbeats 4000000 in
theorem restored_any (va fa : Option Addr) (vc fc n k : Nat) (C : List (List Nat)) (fs : List Fr) (w : World) (hC : CodeOK k n C) (hA : GridAt w va vc C) (hF : FrsAt w fa fc fs) (hl : fs.length = k) (hk : 1 ≤ k) (hkn : k ≤ n) (hn : n ≤ 255)
    (hp : ∀ f ∈ fs, 0 ≤ f.pos ∧ f.pos < (n : Int)) (hd : (poss fs).Nodup) (he : Ev (dats fs)) (hlen : ((dats fs).getD 0 []).length ≤ 1000000000) :
    Calls Try.prog 30 #[.slice va n vc, .slice fa k fc] w (RestPost w k C fs) := by
  have hmk := run_make_row' (P := Try.prog) 22 28 (.slice none 0 0) 24 Try.underlying22 infoR rfl .i64 .i64 k (by omega) (by omega)
  have hzf := zeroFrag
  obtain ⟨b1, off1, _, _, e, _, _⟩ := hA.at 0 (by rw [hC.len]; omega)
  subst e
  obtain ⟨b2, off2, e, _⟩ := hF.el 0 (by omega)
  subst e
  have HC := Lib.hid hC
  have HA := Lib.hid hA
  have HF := Lib.hid hF
  have HL := Lib.hid hl
  have HP := Lib.hid hp
  have HD := Lib.hid hd
  have HE := Lib.hid he
  have HLEN := Lib.hid hlen
  clear hC hA hF hl hp hd he hlen
  have HST := Lib.hid (rst_start w k C fs (by unfold maxLen; omega))
  have HBS : Hid (Below w.heap.size w ((w.alloc (.cells (madeCells #[.slice none 0 0] k) 28)).alloc (.cells (madeCells #[.slice none 0 0] k) 28))) := (below_one w _).alloc (by simp) _
  obtain ⟨GR, hGR⟩ : ∃ GR, GR = w.heap.size := ⟨_, rfl⟩
  obtain ⟨GD, hGD⟩ : ∃ GD, GD = w.heap.size + 1 := ⟨_, rfl⟩
  rw [← hGD, ← hGR] at HST
  go_enter Try.func30, Try.ntmps30
  go_wp2
  rw [← hGD, ← hGR]
  have hne : GR ≠ GD := by omega
  have hw1 : w.heap.size ≤ GR := by omega
  have hw2 : w.heap.size ≤ GD := by omega
  clear hGR hGD
  go_loopw [7, 8, 19] (fun _ _ i ws => ∃ (j : Nat) (R D : List Fr), j ≤ k ∧ i = .int .i64 j ∧ Hid (Rst w ws GR GD k j C fs R D) ∧ Hid (Below w.heap.size w ws)) (fun _ _ i _ => k - (intOf i).toNat)
  case atStart => exact ⟨0, _, _, Nat.zero_le _, rfl, HST, HBS⟩
  case round =>
    obtain ⟨j, R, D, hj, rfl, hR, hb⟩ := hrel
    have hbz := hb.out.size
    clear hmk
    by_cases hlt : j < k
    · obtain ⟨b', off', e, hc0, hc1, hS⟩ := HF.out.el j (by rw [HL.out]; exact hlt)
      cases e
      have hq0 := cell_later hb.out hc0
      have hq1 := cell_later hb.out hc1
      have hpp := HP.out _ (getD_mem fs j fr0 (by rw [HL.out]; exact hlt))
      have HS := Lib.hid hS
      clear hc0 hc1 hS
      have HEL := Lib.hid (Eq.refl (fs.getD j fr0))
      obtain ⟨p, hpn⟩ : ∃ p : Nat, (fs.getD j fr0).pos = (p : Int) := ⟨(fs.getD j fr0).pos.toNat, by omega⟩
      rw [hpn] at hq0 hpp
      have HPN := Lib.hid hpn
      clear hpn
      have hp2 : p < n := by omega
      obtain ⟨b', off', ra, rc, e, hcr0, hSr⟩ := HA.out.at p (by rw [HC.out.len]; exact hp2)
      cases e
      have hcr := cell_later hb.out hcr0
      have HSR := Lib.hid hSr
      have HRL := Lib.hid (HC.out.row p hp2)
      rw [HRL.out] at hcr
      clear hcr0 hSr
      have hq0' := fun o => cell_later (below_one wr o) hq0
      have hcr' := fun o => cell_later (below_one wr o) hcr
      obtain ⟨hca, hfa⟩ := after_alloc (hR.out.rows.cell j (by rw [hR.out.lr]; exact hlt)) (hR.out.rows.frozen j)
      obtain ⟨hcd, hfd⟩ := after_alloc (hR.out.data.cell j (by rw [hR.out.ld]; exact hlt)) (hR.out.data.frozen j)
      have hlR := hR.out.rows.lt.2
      have hlD := hR.out.data.lt.2
      have hn1 : wr.heap.size ≠ GR := by omega
      have hn2 : wr.heap.size ≠ GD := by omega
      have hn3 : GD ≠ GR := fun e => hne e.symm
      have HSP : Hid (∀ o, Rst w (((wr.alloc o).setCell ⟨GR, j, none⟩ (.slice ra k rc)).setCell ⟨GD, j, none⟩ (.slice (fs.getD j fr0).loc (fs.getD j fr0).data.length (fs.getD j fr0).cap)) GR GD k (j + 1) C fs (R.set j ⟨0, ra, rc, C.getD p []⟩) (D.set j (fs.getD j fr0)) ∧ Chg [GR, GD] wr (((wr.alloc o).setCell ⟨GR, j, none⟩ (.slice ra k rc)).setCell ⟨GD, j, none⟩ (.slice (fs.getD j fr0).loc (fs.getD j fr0).data.length (fs.getD j fr0).cap))) := by
        intro o
        have h := hR.out.step hlt hne o ⟨0, ra, rc, C.getD p []⟩ (fs.getD j fr0) HSR.out HS.out (by rw [HPN.out]; rfl) rfl
        simp only [HRL.out] at h
        exact h
      generalize fs.getD j fr0 = f at *
      have hd1 : f.data.length = f.data.length := rfl
      have j0 : (0 : Int) ≤ (j : Int) := by omega
      have j1 : (j : Int) < (k : Int) := by omega
      have p0 : (0 : Int) ≤ (p : Int) := by omega
      have p1 : (p : Int) < (n : Int) := by omega
      clear hlR hlD hd1
      go_wp2
      go_round
      case rel => exact ⟨j + 1, _, _, by omega, by go_num, (HSP.out _).1, (HSP.out _).2.below hb.out hbz (by simp; omega)⟩
      case measure => simp [intOf]; omega
    · obtain rfl : j = k := by omega
      obtain ⟨hRA, hDA⟩ := hR.out.all HL.out
      have HRG := Lib.hid (hR.out.rows.grid hb.out)
      have HDG := Lib.hid (hR.out.data.grid hb.out)
      rw [hRA] at HRG
      rw [hDA] at HDG
      clear hRA hDA hR
      have HCL := Lib.hid (crows_len C fs)
      have HSD : Hid (Sd (crows C fs) ∧ ((crows C fs).getD 0 []).length = j) := by
        have hr : ∀ i, i < j → ((crows C fs).getD i []).length = j := fun i hi => by
          rw [crows_row C fs i (by rw [HL.out]; exact hi)]
          have := HP.out _ (getD_mem fs i fr0 (by rw [HL.out]; exact hi))
          exact HC.out.row _ (by omega)
        exact ⟨⟨by rw [HCL.out, HL.out]; omega, by rw [hr 0 (by omega)]; omega, fun i hi => by rw [HCL.out, HL.out] at hi; rw [hr i hi, hr 0 (by omega)]⟩, hr 0 (by omega)⟩
      go_wp2_with fail
      refine (inverse_any _ _ j (crows C fs) _ HRG.out HSD.out.1 (by rw [HCL.out, HL.out]) HSD.out.2 (by omega)).mono ?_
      rintro e w2 ⟨hb2, ⟨GX, CX, gx, cx, X, rfl, hX, sX, iX⟩ | ⟨rfl, hS⟩⟩
      · have HX := Lib.hid hX
        have HSX := Lib.hid sX
        have HIX := Lib.hid iX
        have HD2 := Lib.hid (HDG.out.below hb2)
        have HB2 := Lib.hid (hb.out.trans (hb2.mono hb.out.size))
        clear hX sX iX hb2
        go_wp2_with fail
        refine (combined_any _ _ _ _ j j X (dats fs) _ HX.out.gridAt HD2.out HSX.out.len (by rw [dats_len, HL.out]) (by omega) (by omega) (Sd.of_sq HSX.out (by omega)) (HSX.out.row 0 (by omega)) HE.out HLEN.out).mono ?_
        rintro e w3 ⟨hyl, aY, cY, rfl, hY, hb3⟩
        have HY := Lib.hid hY
        have HB3 := Lib.hid (HB2.out.trans (hb3.mono HB2.out.size))
        have HYL := Lib.hid hyl
        clear hY hb3 hyl
        go_wp2
        go_ret
        exact ⟨X, HSX.out, HIX.out, HYL.out, _, _, rfl, HY.out, HB3.out⟩
      · refine absurd hS ?_
        exact code_rows j n C (nposs fs) HC.out hkn (by omega) (by rw [nposs_len, HL.out]) (nposs_nodup fs (fun f hf => (HP.out f hf).1) HD.out) (fun p hp => by
          obtain ⟨f, hf, rfl⟩ := List.mem_map.mp hp
          have := HP.out f hf
          omega)

end Go.Proofs.Ytnhledngeicekaa
