/-
  Layer 3: rs.restored.
  Layer 3: rs.firstOfEach, rs.choose.
  Layer 3: rs.choose.
  Layer 3: rs.Code, rs.Encode, rs.Decode.
  Layer 3: the shards behind fragments, in plain numbers; rs.Rebuild.
-/
import Derived.Test.YtjefjlalebpodaaWalksS1
namespace Go.Proofs.Ytjefjlalebpodaa
open Go.RowKit

theorem zeroFrag (w : World) : (zeroValue 52).run Try.prog w = .ok (.agg #[.int .i64 0, .slice none 0 0]) w := by kernel_rfl

/-- Positions as plain numbers. -/
def nposs (fs : List Fr) : List Nat := fs.map fun f => f.pos.toNat
theorem nposs_len (fs : List Fr) : (nposs fs).length = fs.length := by simp [nposs]
theorem nposs_get (fs : List Fr) (i : Nat) (h : i < fs.length) : (nposs fs).getD i 0 = (fs.getD i fr0).pos.toNat := by simp [nposs, h]

theorem nposs_nodup (fs : List Fr) (hp : ∀ f ∈ fs, 0 ≤ f.pos) (hd : (poss fs).Nodup) : (nposs fs).Nodup := by
  induction fs with
  | nil => simp [nposs]
  | cons f fs ih =>
    have hd' : f.pos ∉ poss fs ∧ (poss fs).Nodup := List.nodup_cons.mp hd
    have h2 := ih (fun e he => hp e (List.mem_cons_of_mem _ he)) hd'.2
    refine List.nodup_cons.mpr ⟨fun h => hd'.1 ?_, h2⟩
    obtain ⟨e, he, ee⟩ := List.mem_map.mp h
    have h1 := hp f (List.mem_cons_self ..)
    have h3 := hp e (List.mem_cons_of_mem _ he)
    have ee' : e.pos.toNat = f.pos.toNat := ee
    exact List.mem_map.mpr ⟨e, he, show e.pos = f.pos by omega⟩

/-- The chosen rows of the code. -/
def crows (C : List (List Nat)) (fs : List Fr) : List (List Nat) := (nposs fs).map fun p => C.getD p []
theorem crows_len (C : List (List Nat)) (fs : List Fr) : (crows C fs).length = fs.length := by simp [crows, nposs_len]
theorem crows_row (C : List (List Nat)) (fs : List Fr) (i : Nat) (h : i < fs.length) : (crows C fs).getD i [] = C.getD (fs.getD i fr0).pos.toNat [] := by
  simp [crows, nposs, h]

/-- What restored hands back. -/
def RestPost (w : World) (k : Nat) (C : List (List Nat)) (fs : List Fr) (e : Ending) (w' : World) : Prop :=
  ∃ X, Mt.Sq k X ∧ Mt.InvOf k (crows C fs) X ∧ RetG w k (mprod X (dats fs)) e w'

/-- While the rows are chosen. -/
structure Rst (w w' : World) (GR GD k j : Nat) (C : List (List Nat)) (fs R D : List Fr) : Prop where
  rows : OldG w w' GR k R
  data : OldG w w' GD k D
  lr : R.length = k
  ld : D.length = k
  done : ∀ q, q < j → (R.getD q fr0).data = C.getD (fs.getD q fr0).pos.toNat [] ∧ (D.getD q fr0).data = (fs.getD q fr0).data

theorem rst_start (w : World) (k : Nat) (C : List (List Nat)) (fs : List Fr) (hk : k ≤ maxLen) :
    Rst w ((w.alloc (.cells (madeCells #[.slice none 0 0] k) 22)).alloc (.cells (madeCells #[.slice none 0 0] k) 22)) w.heap.size (w.heap.size + 1) k 0 C fs (List.replicate k fr0) (List.replicate k fr0) where
  rows := (oldG_made w w k (Nat.le_refl _) hk).chg (gs := []) ((Chg.refl _ _).alloc _) (by simp)
  data := by
    have := oldG_made w (w.alloc (.cells (madeCells #[.slice none 0 0] k) 22)) k (by simp) hk
    simpa using this
  lr := by simp
  ld := by simp
  done q hq := by omega

theorem Rst.step {w w' : World} {GR GD k j : Nat} {C : List (List Nat)} {fs R D : List Fr} (h : Rst w w' GR GD k j C fs R D) (hj : j < k) (hne : GR ≠ GD) (o : Obj) (fr fd : Fr) (h1 : SeenAt w fr.loc fr.cap fr.data) (h2 : SeenAt w fd.loc fd.cap fd.data)
    (e1 : fr.data = C.getD (fs.getD j fr0).pos.toNat []) (e2 : fd.data = (fs.getD j fr0).data) :
    Rst w (((w'.alloc o).setCell ⟨GR, j, none⟩ (.slice fr.loc fr.data.length fr.cap)).setCell ⟨GD, j, none⟩ (.slice fd.loc fd.data.length fd.cap)) GR GD k (j + 1) C fs (R.set j fr) (D.set j fd) ∧
    Chg [GR, GD] w' (((w'.alloc o).setCell ⟨GR, j, none⟩ (.slice fr.loc fr.data.length fr.cap)).setCell ⟨GD, j, none⟩ (.slice fd.loc fd.data.length fd.cap)) := by
  have c0 : Chg [] w' (w'.alloc o) := (Chg.refl _ _).alloc o
  obtain ⟨a1, a2⟩ := (h.rows.chg c0 (by simp)).stored j fr h1
  obtain ⟨b1, b2⟩ := ((h.data.chg c0 (by simp)).chg a2 (by simp; exact fun e => hne e.symm)).stored j fd h2
  refine ⟨⟨a1.chg b2 (by simpa using hne), b1, by simp [h.lr], by simp [h.ld], fun q hq => ?_⟩, (c0.mono (by simp)).trans ((a2.mono (by simp)).trans (b2.mono (by simp)))⟩
  by_cases e : q = j
  · subst e
    rw [getD_set_eq _ _ _ _ (by rw [h.lr]; exact hj), getD_set_eq _ _ _ _ (by rw [h.ld]; exact hj)]
    exact ⟨e1, e2⟩
  · rw [getD_set_ne _ _ _ _ _ e, getD_set_ne _ _ _ _ _ e]
    exact h.done q (by omega)

theorem Rst.all {w w' : World} {GR GD k : Nat} {C : List (List Nat)} {fs R D : List Fr} (h : Rst w w' GR GD k k C fs R D) (hl : fs.length = k) : dats R = crows C fs ∧ dats D = dats fs := by
  constructor
  · refine getD_congr _ _ [] (by rw [dats_len, crows_len, h.lr, hl]) fun i hi => ?_
    rw [dats_len, h.lr] at hi
    rw [dats_row R i (by rw [h.lr]; exact hi), crows_row C fs i (by omega), (h.done i hi).1]
  · refine getD_congr _ _ [] (by rw [dats_len, dats_len, h.ld, hl]) fun i hi => ?_
    rw [dats_len, h.ld] at hi
    rw [dats_row D i (by rw [h.ld]; exact hi), dats_row fs i (by omega), (h.done i hi).2]

set_option maxRecDepth 100000 in
set_option maxHeartbeats 4000000 in
theorem restored_any (va fa : Option Addr) (vc fc n k : Nat) (C : List (List Nat)) (fs : List Fr) (w : World) (hC : CodeOK k n C) (hA : GridAt w va vc C) (hF : FrsAt w fa fc fs) (hl : fs.length = k) (hk : 1 ≤ k) (hkn : k ≤ n) (hn : n ≤ 255)
    (hp : ∀ f ∈ fs, 0 ≤ f.pos ∧ f.pos < (n : Int)) (hd : (poss fs).Nodup) (he : Ev (dats fs)) (hlen : ((dats fs).getD 0 []).length ≤ 1000000000) :
    Calls Try.prog 58 #[.slice va n vc, .slice fa k fc] w (RestPost w k C fs) := by
  have hmk := run_make_row' (P := Try.prog) 30 22 (.slice none 0 0) 24 Try.underlying30 infoR rfl .i64 .i64 k (by omega) (by omega)
  have hzf := zeroFrag
  obtain ⟨b1, off1, _, _, e, _, _⟩ := hA.at 0 (by rw [hC.len]; omega)
  subst e
  obtain ⟨b2, off2, e, _⟩ := hF.el 0 (by omega)
  subst e
  have HC := Lib.hid hC
  have HA := Lib.hid hA
  have HF := Lib.hid hF
  have HL := Lib.hid hl
  have HP := Lib.hid hp
  have HD := Lib.hid hd
  have HE := Lib.hid he
  have HLEN := Lib.hid hlen
  clear hC hA hF hl hp hd he hlen
  have HST := Lib.hid (rst_start w k C fs (by unfold maxLen; omega))
  have HBS : Hid (Below w.heap.size w ((w.alloc (.cells (madeCells #[.slice none 0 0] k) 22)).alloc (.cells (madeCells #[.slice none 0 0] k) 22))) := (below_one w _).alloc (by simp) _
  obtain ⟨GR, hGR⟩ : ∃ GR, GR = w.heap.size := ⟨_, rfl⟩
  obtain ⟨GD, hGD⟩ : ∃ GD, GD = w.heap.size + 1 := ⟨_, rfl⟩
  rw [← hGD, ← hGR] at HST
  go_enter Try.func58, Try.ntmps58
  go_wp2
  rw [← hGD, ← hGR]
  have hne : GR ≠ GD := by omega
  have hw1 : w.heap.size ≤ GR := by omega
  have hw2 : w.heap.size ≤ GD := by omega
  clear hGR hGD
  go_loopw [7, 8, 19] (fun _ _ i ws => ∃ (j : Nat) (R D : List Fr), j ≤ k ∧ i = .int .i64 j ∧ Hid (Rst w ws GR GD k j C fs R D) ∧ Hid (Below w.heap.size w ws)) (fun _ _ i _ => k - (intOf i).toNat)
  case atStart => exact ⟨0, _, _, Nat.zero_le _, rfl, HST, HBS⟩
  case round =>
    obtain ⟨j, R, D, hj, rfl, hR, hb⟩ := hrel
    have hbz := hb.out.size
    clear hmk
    by_cases hlt : j < k
    · obtain ⟨b', off', e, hc0, hc1, hS⟩ := HF.out.el j (by rw [HL.out]; exact hlt)
      cases e
      have hq0 := cell_later hb.out hc0
      have hq1 := cell_later hb.out hc1
      have hpp := HP.out _ (getD_mem fs j fr0 (by rw [HL.out]; exact hlt))
      have HS := Lib.hid hS
      clear hc0 hc1 hS
      have HEL := Lib.hid (Eq.refl (fs.getD j fr0))
      obtain ⟨p, hpn⟩ : ∃ p : Nat, (fs.getD j fr0).pos = (p : Int) := ⟨(fs.getD j fr0).pos.toNat, by omega⟩
      rw [hpn] at hq0 hpp
      have HPN := Lib.hid hpn
      clear hpn
      have hp2 : p < n := by omega
      obtain ⟨b', off', ra, rc, e, hcr0, hSr⟩ := HA.out.at p (by rw [HC.out.len]; exact hp2)
      cases e
      have hcr := cell_later hb.out hcr0
      have HSR := Lib.hid hSr
      have HRL := Lib.hid (HC.out.row p hp2)
      rw [HRL.out] at hcr
      clear hcr0 hSr
      have hq0' := fun o => cell_later (below_one wr o) hq0
      have hcr' := fun o => cell_later (below_one wr o) hcr
      obtain ⟨hca, hfa⟩ := after_alloc (hR.out.rows.cell j (by rw [hR.out.lr]; exact hlt)) (hR.out.rows.frozen j)
      obtain ⟨hcd, hfd⟩ := after_alloc (hR.out.data.cell j (by rw [hR.out.ld]; exact hlt)) (hR.out.data.frozen j)
      have hlR := hR.out.rows.lt.2
      have hlD := hR.out.data.lt.2
      have hn1 : wr.heap.size ≠ GR := by omega
      have hn2 : wr.heap.size ≠ GD := by omega
      have hn3 : GD ≠ GR := fun e => hne e.symm
      have HSP : Hid (∀ o, Rst w (((wr.alloc o).setCell ⟨GR, j, none⟩ (.slice ra k rc)).setCell ⟨GD, j, none⟩ (.slice (fs.getD j fr0).loc (fs.getD j fr0).data.length (fs.getD j fr0).cap)) GR GD k (j + 1) C fs (R.set j ⟨0, ra, rc, C.getD p []⟩) (D.set j (fs.getD j fr0)) ∧ Chg [GR, GD] wr (((wr.alloc o).setCell ⟨GR, j, none⟩ (.slice ra k rc)).setCell ⟨GD, j, none⟩ (.slice (fs.getD j fr0).loc (fs.getD j fr0).data.length (fs.getD j fr0).cap))) := by
        intro o
        have h := hR.out.step hlt hne o ⟨0, ra, rc, C.getD p []⟩ (fs.getD j fr0) HSR.out HS.out (by rw [HPN.out]; rfl) rfl
        simp only [HRL.out] at h
        exact h
      generalize fs.getD j fr0 = f at *
      have hd1 : f.data.length = f.data.length := rfl
      have j0 : (0 : Int) ≤ (j : Int) := by omega
      have j1 : (j : Int) < (k : Int) := by omega
      have p0 : (0 : Int) ≤ (p : Int) := by omega
      have p1 : (p : Int) < (n : Int) := by omega
      clear hlR hlD hd1
      go_wp2
      go_round
      case rel => exact ⟨j + 1, _, _, by omega, by go_num, (HSP.out _).1, (HSP.out _).2.below hb.out hbz (by simp; omega)⟩
      case measure => simp [intOf]; omega
    · obtain rfl : j = k := by omega
      obtain ⟨hRA, hDA⟩ := hR.out.all HL.out
      have HRG := Lib.hid (hR.out.rows.grid hb.out)
      have HDG := Lib.hid (hR.out.data.grid hb.out)
      rw [hRA] at HRG
      rw [hDA] at HDG
      clear hRA hDA hR
      have HCL := Lib.hid (crows_len C fs)
      have HSD : Hid (Sd (crows C fs) ∧ ((crows C fs).getD 0 []).length = j) := by
        have hr : ∀ i, i < j → ((crows C fs).getD i []).length = j := fun i hi => by
          rw [crows_row C fs i (by rw [HL.out]; exact hi)]
          have := HP.out _ (getD_mem fs i fr0 (by rw [HL.out]; exact hi))
          exact HC.out.row _ (by omega)
        exact ⟨⟨by rw [HCL.out, HL.out]; omega, by rw [hr 0 (by omega)]; omega, fun i hi => by rw [HCL.out, HL.out] at hi; rw [hr i hi, hr 0 (by omega)]⟩, hr 0 (by omega)⟩
      go_wp2_with fail
      refine (inverse_any _ _ j (crows C fs) _ HRG.out HSD.out.1 (by rw [HCL.out, HL.out]) HSD.out.2 (by omega)).mono ?_
      rintro e w2 ⟨hb2, ⟨GX, CX, gx, cx, X, rfl, hX, sX, iX⟩ | ⟨rfl, hS⟩⟩
      · have HX := Lib.hid hX
        have HSX := Lib.hid sX
        have HIX := Lib.hid iX
        have HD2 := Lib.hid (HDG.out.below hb2)
        have HB2 := Lib.hid (hb.out.trans (hb2.mono hb.out.size))
        clear hX sX iX hb2
        go_wp2_with fail
        refine (combined_any _ _ _ _ j j X (dats fs) _ HX.out.gridAt HD2.out HSX.out.len (by rw [dats_len, HL.out]) (by omega) (by omega) (Sd.of_sq HSX.out (by omega)) (HSX.out.row 0 (by omega)) HE.out HLEN.out).mono ?_
        rintro e w3 ⟨hyl, aY, cY, rfl, hY, hb3⟩
        have HY := Lib.hid hY
        have HB3 := Lib.hid (HB2.out.trans (hb3.mono HB2.out.size))
        have HYL := Lib.hid hyl
        clear hY hb3 hyl
        go_wp2
        go_ret
        exact ⟨X, HSX.out, HIX.out, HYL.out, _, _, rfl, HY.out, HB3.out⟩
      · refine absurd hS ?_
        exact code_rows j n C (nposs fs) HC.out hkn (by omega) (by rw [nposs_len, HL.out]) (nposs_nodup fs (fun f hf => (HP.out f hf).1) HD.out) (fun p hp => by
          obtain ⟨f, hf, rfl⟩ := List.mem_map.mp hp
          have := HP.out f hf
          omega)

end Go.Proofs.Ytjefjlalebpodaa

namespace Go.Proofs.Ytjefjlalebpodaa
open Go.RowKit

theorem zeroSeen (w : World) : (zeroValue 101).run Try.prog w = .ok (.agg (Array.replicate 255 (.bool false))) w := by kernel_rfl

theorem chg_set (w : World) (b i : Nat) (v : Value) : Chg [b] w (w.setCell ⟨b, i, none⟩ v) :=
  ⟨rfl, rfl, rfl, by simp [World.setCell], fun k _ hk => Below.heap_setCell _ _ _ _ (by simpa using hk)⟩

theorem cell_pair0 (w : World) (u v : Value) (t : TypeId) (n : Nat) (h : w.heap.size = n) : (w.alloc (.cells #[u, v] t)).cell? ⟨n, 0, none⟩ = some u := by
  subst h
  rw [World.cell?_alloc_at (hn := rfl)]; rfl
theorem cell_pair1 (w : World) (u v : Value) (t : TypeId) (n : Nat) (h : w.heap.size = n) : (w.alloc (.cells #[u, v] t)).cell? ⟨n, 1, none⟩ = some v := by
  subst h
  rw [World.cell?_alloc_at (hn := rfl)]; rfl

/-- While the first fragments are picked: B is the block of what was seen. -/
structure Fst (w ws : World) (B : Nat) (v : Value) (fs : List Fr) : Prop where
  list : OldF w ws v fs
  seen : ws.rowIs B 101 255 (fun q => .bool (decide ((q : Int) ∈ poss fs)))
  ne : ∀ g, v.ownBlock = some g → g ≠ B

theorem fst_start (w : World) : Fst w (w.alloc (.cells (Array.replicate 255 (.bool false)) 101)) w.heap.size (.slice none 0 0) [] where
  list := oldF_nil _ _
  seen := by
    have := World.rowIs_alloc w (Array.replicate 255 (.bool false)) 101 (fun q => .bool (decide ((q : Int) ∈ poss []))) (fun i hi => by
      rw [Array.getElem?_eq_getElem hi]; simp [poss])
    simpa using this
  ne g hg := by simp [Value.ownBlock] at hg

theorem Fst.alloc {w ws : World} {B : Nat} {v : Value} {fs : List Fr} (h : Fst w ws B v fs) (o : Obj) : Fst w (ws.alloc o) B v fs :=
  ⟨h.list.chg (gs := []) ((Chg.refl _ _).alloc o) (by simp), h.seen.alloc o, h.ne⟩

/-- A fragment more. -/
theorem Fst.step {w ws w2 : World} {B p g2 c2 n : Nat} {v : Value} {fs : List Fr} {f : Fr} (h : Fst w ws B v fs) (o1 o2 : Obj) (hp : f.pos = (p : Int)) (hn : ¬ f.pos ∈ poss fs)
    (hF : OldF w w2 (.slice (some ⟨g2, 0, none⟩) n c2) (fs ++ [f])) (hg : (((ws.setCell ⟨B, p, none⟩ (.bool true)).alloc o1).alloc o2).grownBy w2 v.ownBlock)
    (hat : v.ownBlock = some g2 ∨ (((ws.setCell ⟨B, p, none⟩ (.bool true)).alloc o1).alloc o2).heap.size ≤ g2) : Fst w w2 B (.slice (some ⟨g2, 0, none⟩) n c2) (fst1 fs f) := by
  have e : fst1 fs f = fs ++ [f] := by unfold fst1; rw [if_neg (by simpa [poss] using hn)]
  rw [e]
  have hB := h.seen.lt
  refine ⟨hF, ?_, fun g hg' => ?_⟩
  · refine (((((h.seen.set p (.bool true)).alloc o1).alloc o2).of_block (hg.block B (by simp [World.setCell]; omega) (fun e => h.ne B e.symm rfl))).congr fun i hi => ?_)
    by_cases ei : i = p
    · rw [if_pos ei]; simp [poss, hp, ei]
    · rw [if_neg ei]
      have : ((i : Int) = f.pos) = False := by rw [hp]; simp; omega
      simp [poss, this]
  · have e2 : g = g2 := by simpa [Value.ownBlock] using hg'.symm
    subst e2
    rcases hat with hat | hat
    · exact h.ne g hat
    · simp [World.setCell] at hat; omega

theorem fst1_same {fs : List Fr} {f : Fr} (h : f.pos ∈ poss fs) : fst1 fs f = fs := by
  unfold fst1; rw [if_pos (by simpa [poss] using h)]

/-- What firstOfEach hands back. -/
def FstPost (w : World) (fs : List Fr) (e : Ending) (w' : World) : Prop :=
  ∃ a n cap, e = .returned (.slice a n cap) ∧ (firsts fs).length = n ∧ FrsAt w' a cap (firsts fs) ∧ Below w.heap.size w w'

set_option maxRecDepth 100000 in
set_option maxHeartbeats 4000000 in
theorem firstOf_any (fa : Option Addr) (fc l : Nat) (fs : List Fr) (w : World) (hF : FrsAt w fa fc fs) (hl : fs.length = l) (hl2 : l ≤ 100000000) (hp : ∀ f ∈ fs, 0 ≤ f.pos ∧ f.pos < 255) :
    Calls Try.prog 65 #[.slice fa l fc] w (FstPost w fs) := by
  have hzf := zeroFrag
  have hzs := zeroSeen
  have HF := Lib.hid hF
  have HL := Lib.hid hl
  have HP := Lib.hid hp
  clear hF hl hp
  have HST := Lib.hid (fst_start w)
  have HB0 : Hid (Below w.heap.size w (w.alloc (.cells (Array.replicate 255 (.bool false)) 101))) := below_one _ _
  go_enter Try.func65, Try.ntmps65
  obtain ⟨B, hB⟩ : ∃ B, B = w.heap.size := ⟨_, rfl⟩
  rw [← hB] at HST
  generalize hrep : Array.replicate 255 (Value.bool false) = rep at *
  clear hrep
  go_wp2
  rw [← hB]
  have hwB : w.heap.size ≤ B := by omega
  clear hB hzs
  go_loopw [4, 6, 9] (fun s _ i ws => ∃ (j n cap : Nat) (a : Option Addr), j ≤ l ∧ n ≤ j ∧ i = .int .i64 j ∧ s = .slice a n cap ∧ Hid (Fst w ws B (.slice a n cap) (firsts (fs.take j))) ∧ Hid (Below w.heap.size w ws) ∧ Hid ((firsts (fs.take j)).length = n)) (fun _ _ i _ => l - (intOf i).toNat)
  case atStart => exact ⟨0, 0, 0, none, Nat.zero_le _, Nat.zero_le _, rfl, rfl, HST, HB0, rfl⟩
  case round =>
    obtain ⟨j, n, cap, a, hj, hnj, rfl, rfl, hR, hb, hN⟩ := hrel
    have hbz := hb.out.size
    by_cases hlt : j < l
    · obtain ⟨b2, off2, e, hc0, hc1, hS⟩ := HF.out.el j (by rw [HL.out]; exact hlt)
      subst e
      have hq0 := cell_later hb.out hc0
      have hq1 := cell_later hb.out hc1
      have hpp := HP.out _ (getD_mem fs j fr0 (by rw [HL.out]; exact hlt))
      have HWF := Lib.hid (HF.out.wf _ (getD_mem fs j fr0 (by rw [HL.out]; exact hlt)))
      have HS := Lib.hid hS
      have HSTEP := Lib.hid (firsts_step fs j (by rw [HL.out]; exact hlt))
      clear hc0 hc1 hS
      obtain ⟨p, hpn⟩ : ∃ p : Nat, (fs.getD j fr0).pos = (p : Int) := ⟨(fs.getD j fr0).pos.toNat, by omega⟩
      rw [hpn] at hq0 hpp
      have HPN := Lib.hid hpn
      clear hpn
      have hp2 : p < 255 := by omega
      have p0 : (0 : Int) ≤ (p : Int) := by omega
      have p1 : (p : Int) < 255 := by omega
      have j0 : (0 : Int) ≤ (j : Int) := by omega
      have j1 : (j : Int) < (l : Int) := by omega
      have hcs := hR.out.seen.cell hp2
      obtain ⟨hcs1, hfs1⟩ := after_alloc hcs (hR.out.seen.frozen p)
      have hlB := hR.out.seen.lt
      have hn1 : wr.heap.size ≠ B := by omega
      generalize fs.getD j fr0 = f at *
      generalize hfk : firsts (fs.take j) = fk at *
      by_cases hin : f.pos ∈ poss fk
      · have hd : decide ((p : Int) ∈ poss fk) = true := by rw [← HPN.out]; simpa using hin
        rw [hd] at hcs
        simp only [hd] at hcs1
        have HE := Lib.hid (fst1_same hin)
        have HAL := Lib.hid (fun o => hR.out.alloc o)
        have HBL := Lib.hid (fun o => hb.out.alloc hbz o)
        clear hd hin
        go_wp2
        go_round
        case rel => exact ⟨j + 1, n, cap, a, by omega, by omega, by go_num, rfl, by rw [HSTEP.out, HE.out]; exact HAL.out _, HBL.out _, by rw [HSTEP.out, HE.out]; exact hN⟩
        case measure => simp [intOf]; omega
      · have hd : decide ((p : Int) ∈ poss fk) = false := by rw [← HPN.out]; simpa using hin
        rw [hd] at hcs
        simp only [hd] at hcs1
        have HNI := Lib.hid hin
        have HOL : Hid (∀ o1 o2, OldF w (((wr.setCell ⟨B, p, none⟩ (.bool true)).alloc o1).alloc o2) (.slice a n cap) fk) := fun o1 o2 =>
          ((hR.out.list.chg (chg_set _ B p _) (fun g hg => by simpa using hR.out.ne g hg)).below (below_one _ _)).below (below_one _ _)
        have HBL : Hid (∀ o1 o2, Below w.heap.size w (((wr.setCell ⟨B, p, none⟩ (.bool true)).alloc o1).alloc o2)) := fun o1 o2 =>
          ((hb.out.setCell hwB _).alloc (by simp [World.setCell]; omega) o1).alloc (by simp [World.setCell]; omega) o2
        clear hd hin
        go_wp2_with (at_builtin; refine wpList_appF (w0 := w) rfl (.tmp 21) (.tmp 23) rfl (.slice a n cap) fk n hN.out rfl (HOL.out _ _) f HS.out HWF.out _ _ rfl (by rw [HPN.out]; exact cell_pair0 _ _ _ _ _ (by simp [World.setCell])) (cell_pair1 _ _ _ _ _ (by simp [World.setCell])) (by omega) (by simp [World.setCell]; omega) ?_; intro g2 c2 w2 hF2 hg2 hat2)
        have HFS := Lib.hid (hR.out.step _ _ HPN.out HNI.out hF2 hg2 hat2)
        have HBB := Lib.hid (below_grown (HOL.out _ _) (HBL.out _ _) hg2)
        have HLN : Hid ((fst1 fk f).length = n + 1) := by
          show _ = _
          unfold fst1
          rw [if_neg (by simpa [poss] using HNI.out), List.length_append, hN.out]
          rfl
        go_round
        case rel => exact ⟨j + 1, n + 1, c2, _, by omega, by omega, by go_num, rfl, by rw [HSTEP.out]; exact HFS, HBB, by rw [HSTEP.out]; exact HLN⟩
        case measure => simp [intOf]; omega
    · obtain rfl : j = l := by omega
      have HFR := Lib.hid (hR.out.list.frs hb.out)
      have HTK : Hid (firsts (fs.take j) = firsts fs) := by show _ = _; rw [List.take_of_length_le (by rw [HL.out]; omega)]
      rw [HTK.out] at HFR hN
      go_wp2
      go_ret
      exact ⟨_, _, _, rfl, hN.out, HFR.out.2, hb.out⟩

end Go.Proofs.Ytjefjlalebpodaa

namespace Go.Proofs.Ytjefjlalebpodaa
open Go.RowKit

/-- Every position is one of the code, every fragment as long as the first one. -/
def Good (n : Nat) (fs : List Fr) : Prop := ∀ i, i < fs.length → (0 ≤ (fs.getD i fr0).pos ∧ (fs.getD i fr0).pos < (n : Int)) ∧ (fs.getD i fr0).data.length = (fs.getD 0 fr0).data.length

/-- The first j of them are good. -/
def GoodTo (n : Nat) (fs : List Fr) (j : Nat) : Prop := ∀ q, q < j → (0 ≤ (fs.getD q fr0).pos ∧ (fs.getD q fr0).pos < (n : Int)) ∧ (fs.getD q fr0).data.length = (fs.getD 0 fr0).data.length

theorem GoodTo.more {n j : Nat} {fs : List Fr} (h : GoodTo n fs j) (h1 : 0 ≤ (fs.getD j fr0).pos ∧ (fs.getD j fr0).pos < (n : Int)) (h2 : (fs.getD j fr0).data.length = (fs.getD 0 fr0).data.length) : GoodTo n fs (j + 1) := by
  intro i hi
  by_cases e : i = j
  · subst e; exact ⟨h1, h2⟩
  · exact h i (by omega)

theorem ibne {a b : Nat} (h : a ≠ b) : ((a : Int) != (b : Int)) = true := by simp; omega
theorem ibeq {a b : Nat} (h : a = b) : ((a : Int) != (b : Int)) = false := by simp; omega

theorem isPos_yes (p : Int) (k m n : Nat) (hk : k ≤ 255) (hm : m ≤ 255) (hn : k + m = n) (h : 0 ≤ p ∧ p < (n : Int)) (w : World) :
    Calls Try.prog 64 #[.int .i64 p, .int .i64 (k : Int), .int .i64 (m : Int)] w fun e w' => e = .returned (.bool true) ∧ w = w' := by
  have := isPos_any p k m w hk hm
  rwa [show decide (0 ≤ p ∧ p < (k : Int) + (m : Int)) = true by simp; omega] at this

theorem isPos_no (p : Int) (k m n : Nat) (hk : k ≤ 255) (hm : m ≤ 255) (hn : k + m = n) (h : ¬ (0 ≤ p ∧ p < (n : Int))) (w : World) :
    Calls Try.prog 64 #[.int .i64 p, .int .i64 (k : Int), .int .i64 (m : Int)] w fun e w' => e = .returned (.bool false) ∧ w = w' := by
  have := isPos_any p k m w hk hm
  rwa [show decide (0 ≤ p ∧ p < (k : Int) + (m : Int)) = false by simp; omega] at this

/-- What choose hands back where the code is one. -/
def ChPost (w : World) (k n : Nat) (fs : List Fr) (e : Ending) (w' : World) : Prop :=
  Below w.heap.size w w' ∧
  ((¬ Good n fs ∧ e = .returned (.tuple #[.slice none 0 0, .int .i64 2])) ∨
   (Good n fs ∧ (firsts fs).length < k ∧ e = .returned (.tuple #[.slice none 0 0, .int .i64 10])) ∨
   (Good n fs ∧ k ≤ (firsts fs).length ∧ ∃ a cap, e = .returned (.tuple #[.slice a k cap, .int .i64 0]) ∧ FrsAt w' a cap ((firsts fs).take k)))

theorem choose_no (k m : Int) (v : Value) (w : World) (hk : (Lit.int .i64 k).wf = true) (h : ¬ May k m) :
    Calls Try.prog 57 #[.int .i64 k, .int .i64 m, v] w fun e w' => e = .returned (.tuple #[.slice none 0 0, .int .i64 3]) ∧ w = w' := by
  have HN := Lib.hid (fun w => allowed_no k m w hk h)
  clear hk h
  go_enter Try.func57, Try.ntmps57
  go_wp2_with fail
  refine (HN.out _).mono ?_
  rintro e w' ⟨rfl, rfl⟩
  go_wp2
  go_ret2
  exact ⟨rfl, rfl⟩

set_option maxRecDepth 100000 in
set_option maxHeartbeats 4000000 in
theorem choose_any (fa : Option Addr) (fc l k m n : Nat) (fs : List Fr) (w : World) (hF : FrsAt w fa fc fs) (hl : fs.length = l) (hl2 : l ≤ 100000000) (hk : 1 ≤ k) (hn : k + m = n) (hn2 : n ≤ 255) :
    Calls Try.prog 57 #[.int .i64 (k : Int), .int .i64 (m : Int), .slice fa l fc] w (ChPost w k n fs) := by
  have hzf := zeroFrag
  have HF := Lib.hid hF
  have HL := Lib.hid hl
  have HAY := Lib.hid (fun w => allowed_yes (k : Int) (m : Int) w ⟨by omega, by omega, by omega⟩)
  have hkk : k ≤ 255 := by omega
  have hmm : m ≤ 255 := by omega
  have HN := Lib.hid hn
  clear hF hl hn
  go_enter Try.func57, Try.ntmps57
  go_wp2_with fail
  refine (HAY.out _).mono ?_
  rintro e w' ⟨rfl, rfl⟩
  go_wp2
  go_loopw [9, 17] (fun _ i ws => ∃ j : Nat, j ≤ l ∧ i = .int .i64 j ∧ Hid (Below w.heap.size w ws) ∧ Hid (GoodTo n fs j)) (fun _ i _ => l - (intOf i).toNat)
  case atStart => exact ⟨0, Nat.zero_le _, rfl, Below.refl _ _, fun q hq => by omega⟩
  case round =>
    obtain ⟨j, hj, rfl, hb, hG⟩ := hrel
    have hbz := hb.out.size
    by_cases hlt : j < l
    · obtain ⟨b2, off2, e, hc0, hc1, hS⟩ := HF.out.el j (by rw [HL.out]; exact hlt)
      subst e
      obtain ⟨b3, off3, e, _, hz1, hS0⟩ := HF.out.el 0 (by rw [HL.out]; omega)
      cases e
      have hq0 := cell_later hb.out hc0
      have hq1 := cell_later hb.out hc1
      have hq2 := cell_later hb.out hz1
      rw [show off2 + 0 * 2 + 1 = off2 + 1 by omega] at hq2
      have hle := Nat.le_trans hS.le hS.max
      have hle0 := Nat.le_trans hS0.le hS0.max
      unfold maxLen at hle hle0
      have HWF := Lib.hid (HF.out.wf _ (getD_mem fs j fr0 (by rw [HL.out]; exact hlt)))
      clear hc0 hc1 hz1 hS hS0
      have j0 : (0 : Int) ≤ (j : Int) := by omega
      have j1 : (j : Int) < (l : Int) := by omega
      have l0 : (0 : Int) < (l : Int) := by omega
      by_cases hg1 : 0 ≤ (fs.getD j fr0).pos ∧ (fs.getD j fr0).pos < (n : Int)
      · have HIP := Lib.hid (isPos_yes _ k m n hkk hmm HN.out hg1)
        have HG1 := Lib.hid hg1
        clear hg1
        by_cases hg2 : (fs.getD j fr0).data.length = (fs.getD 0 fr0).data.length
        · have HG2 := Lib.hid (hG.out.more HG1.out hg2)
          rw [hg2] at hq1 hle
          have HBA := Lib.hid (fun o => hb.out.alloc hbz o)
          clear hg2
          generalize (fs.getD 0 fr0).data.length = q at *
          generalize (fs.getD j fr0).pos = p at *
          generalize (fs.getD j fr0).loc = la at *
          generalize (fs.getD j fr0).cap = lc at *
          generalize (fs.getD 0 fr0).loc = la0 at *
          generalize (fs.getD 0 fr0).cap = lc0 at *
          have t : ((q : Int) != (q : Int)) = false := by simp
          go_upto_region 6 with fail
          have hf0 : (wr.alloc (.cells #[.int .i64 p, .slice la q lc] 52)).cell? ⟨wr.heap.size, 0, none⟩ = some (.int .i64 p) := cell_pair0 _ _ _ _ _ rfl
          have hf1 : (wr.alloc (.cells #[.int .i64 p, .slice la q lc] 52)).cell? ⟨wr.heap.size, 1, none⟩ = some (.slice la q lc) := cell_pair1 _ _ _ _ _ rfl
          have hf2 := cell_later (below_one wr (.cells #[.int .i64 p, .slice la q lc] 52)) hq2
          have HBW := Lib.hid (HBA.out (.cells #[.int .i64 p, .slice la q lc] 52))
          generalize wr.alloc (.cells #[.int .i64 p, .slice la q lc] 52) = wq at *
          generalize wr.heap.size = FB at *
          clear hq0 hq1 hq2 hb
          go_quiet ((go_at_call 64; exact quiet_left' (HIP.out _)))
          go_wp2
          go_round
          case rel =>
            exact ⟨j + 1, by omega, by go_num, HBW.out.trans ((below_drewN _ _).mono HBW.out.size), HG2⟩
          case measure => simp [intOf]; omega
        · have HNG : Hid (¬ Good n fs) := fun h => hg2 (h j (by rw [HL.out]; exact hlt)).2
          have t : (((fs.getD j fr0).data.length : Int) != ((fs.getD 0 fr0).data.length : Int)) = true := ibne hg2
          have HBA := Lib.hid (fun o => hb.out.alloc hbz o)
          clear hg2
          generalize (fs.getD 0 fr0).data.length = q at *
          generalize (fs.getD j fr0).data.length = q' at *
          generalize (fs.getD j fr0).pos = p at *
          generalize (fs.getD j fr0).loc = la at *
          generalize (fs.getD j fr0).cap = lc at *
          generalize (fs.getD 0 fr0).loc = la0 at *
          generalize (fs.getD 0 fr0).cap = lc0 at *
          go_upto_region 6 with fail
          have hf0 : (wr.alloc (.cells #[.int .i64 p, .slice la q' lc] 52)).cell? ⟨wr.heap.size, 0, none⟩ = some (.int .i64 p) := cell_pair0 _ _ _ _ _ rfl
          have hf1 : (wr.alloc (.cells #[.int .i64 p, .slice la q' lc] 52)).cell? ⟨wr.heap.size, 1, none⟩ = some (.slice la q' lc) := cell_pair1 _ _ _ _ _ rfl
          have hf2 := cell_later (below_one wr (.cells #[.int .i64 p, .slice la q' lc] 52)) hq2
          have HBW := Lib.hid (HBA.out (.cells #[.int .i64 p, .slice la q' lc] 52))
          generalize wr.alloc (.cells #[.int .i64 p, .slice la q' lc] 52) = wq at *
          generalize wr.heap.size = FB at *
          clear hq0 hq1 hq2 hb
          go_quiet ((go_at_call 64; exact quiet_left' (HIP.out _)))
          go_wp2
          go_ret2
          exact ⟨HBW.out.trans ((below_drewN _ _).mono HBW.out.size), .inl ⟨HNG.out, rfl⟩⟩
      · have HNG : Hid (¬ Good n fs) := fun h => hg1 (h j (by rw [HL.out]; exact hlt)).1
        have HIP := Lib.hid (isPos_no _ k m n hkk hmm HN.out hg1)
        have HBA := Lib.hid (fun o => hb.out.alloc hbz o)
        clear hg1
        generalize (fs.getD 0 fr0).data.length = q at *
        generalize (fs.getD j fr0).data.length = q' at *
        generalize (fs.getD j fr0).pos = p at *
        generalize (fs.getD j fr0).loc = la at *
        generalize (fs.getD j fr0).cap = lc at *
        generalize (fs.getD 0 fr0).loc = la0 at *
        generalize (fs.getD 0 fr0).cap = lc0 at *
        go_upto_region 6 with fail
        have hf0 : (wr.alloc (.cells #[.int .i64 p, .slice la q' lc] 52)).cell? ⟨wr.heap.size, 0, none⟩ = some (.int .i64 p) := cell_pair0 _ _ _ _ _ rfl
        have HBW := Lib.hid (HBA.out (.cells #[.int .i64 p, .slice la q' lc] 52))
        generalize wr.alloc (.cells #[.int .i64 p, .slice la q' lc] 52) = wq at *
        generalize wr.heap.size = FB at *
        clear hq0 hq1 hq2 hb
        go_quiet ((go_at_call 64; exact quiet_left' (HIP.out _)))
        go_wp2
        go_ret2
        exact ⟨HBW.out.trans ((below_drewN _ _).mono HBW.out.size), .inl ⟨HNG.out, rfl⟩⟩
    · obtain rfl : j = l := by omega
      have HGD : Hid (Good n fs) := fun i hi => hG.out i (by rw [HL.out] at hi; exact hi)
      clear hG
      have HP : Hid (∀ f ∈ fs, 0 ≤ f.pos ∧ f.pos < 255) := fun f hf => by
        obtain ⟨i, hi, e⟩ := List.mem_iff_getElem.mp hf
        have := (HGD.out i hi).1
        rw [List.getD_eq_getElem?_getD, List.getElem?_eq_getElem hi] at this
        have h2 : (some (fs[i])).getD fr0 = f := e
        rw [h2] at this
        omega
      have HF2 := Lib.hid (HF.out.below hb.out)
      go_wp2_with fail
      refine (firstOf_any _ _ j fs _ HF2.out HL.out hl2 HP.out).mono ?_
      rintro e w2 ⟨a, r, cap, rfl, hr, hFr, hb2⟩
      have HB2 := Lib.hid (hb.out.trans (hb2.mono hb.out.size))
      have hrc := hFr.le
      have hcm := hFr.max
      rw [hr] at hrc
      unfold maxLen at hcm
      have HR := Lib.hid hr
      have HFR := Lib.hid hFr
      clear hb2
      by_cases hlk : r < k
      · have d1 : decide ((r : Int) < (k : Int)) = true := by simp; omega
        have d2 : decide (r < k) = true := by simp; omega
        clear hr hFr
        go_wp2
        go_ret2
        exact ⟨HB2.out, .inr (.inl ⟨HGD.out, by rw [HR.out]; exact hlk, rfl⟩)⟩
      · have d1 : decide ((r : Int) < (k : Int)) = false := by simp; omega
        have d2 : decide (r < k) = false := by simp; omega
        obtain ⟨b5, off5, e, _, _, _⟩ := hFr.el 0 (by rw [hr]; omega)
        subst e
        clear hr hFr
        go_wp2
        go_ret2
        exact ⟨HB2.out, .inr (.inr ⟨HGD.out, by rw [HR.out]; omega, _, _, rfl, HFR.out.take k⟩)⟩

end Go.Proofs.Ytjefjlalebpodaa

namespace Go.Proofs.Ytjefjlalebpodaa
open Go.RowKit

theorem mprod_at (a b : List (List Nat)) (i : Nat) (hi : i < a.length) : (mprod a b).getD i [] = mrowK (a.getD i []) b (b.getD 0 []).length b.length := by
  unfold mprod
  rw [mmulK_row _ _ _ _ _ hi, if_pos hi]

/-- The code matrix times the shards are the fragments, empty shards too. -/
theorem code_frags' (k n : Nat) (C s : List (List Nat)) (hC : CodeOK k n C) (hk : 0 < k) (hs : s.length = k) (es : Ev s) (bs : Mt.By s) : mprod C s = frags s n := by
  by_cases h0 : (s.getD 0 []).length = 0
  · rw [mprod_nil C s h0, hC.len]
    refine getD_congr _ _ [] (by rw [frags_len, List.length_replicate]) fun i hi => ?_
    rw [List.length_replicate] at hi
    rw [getD_rep _ _ _ _ hi, frags_row s n i hi]
    have := frag_len s i
    rw [h0] at this
    exact (List.eq_nil_of_length_eq_zero this).symm
  · exact code_frags k n C s hC hs ⟨by omega, by omega, es⟩ bs

/-- A grid and no error are handed back. -/
def RetT (w : World) (n : Nat) (m : List (List Nat)) (e : Ending) (w' : World) : Prop :=
  m.length = n ∧ ∃ a cap, e = .returned (.tuple #[.slice a n cap, .int .i64 0]) ∧ GridAt w' a cap m ∧ Below w.heap.size w w'

theorem enc_no (m : Int) (va : Option Addr) (vc l : Nat) (w : World) (hl : l ≤ 1000000) (h : ¬ May l m) :
    Calls Try.prog 42 #[.int .i64 m, .slice va l vc] w fun e w' => e = .returned (.tuple #[.slice none 0 0, .int .i64 3]) ∧ w = w' := by
  have HN := Lib.hid (fun w => allowed_no (l : Int) m w (wf_nat l (by omega)) h)
  clear h
  go_enter Try.func42, Try.ntmps42
  go_wp2_with fail
  refine (HN.out _).mono ?_
  rintro e w' ⟨rfl, rfl⟩
  go_wp2
  go_ret2
  exact ⟨rfl, rfl⟩

/-- What Encode hands back where the code is one. -/
def EncPost (w : World) (n : Nat) (s : List (List Nat)) (e : Ending) (w' : World) : Prop :=
  (¬ Ev s ∧ e = .returned (.tuple #[.slice none 0 0, .int .i64 2]) ∧ Below w.heap.size w w') ∨ (Ev s ∧ RetT w n (frags s n) e w')

set_option maxRecDepth 100000 in
set_option maxHeartbeats 2000000 in
theorem enc_any (m : Nat) (va : Option Addr) (vc l n : Nat) (s : List (List Nat)) (w : World) (hG : GridAt w va vc s) (hl : s.length = l) (hl1 : 1 ≤ l) (hn : l + m = n) (hn2 : n ≤ 255) (hw : (s.getD 0 []).length ≤ 1000000000) :
    Calls Try.prog 42 #[.int .i64 (m : Int), .slice va l vc] w (EncPost w n s) := by
  have HAY := Lib.hid (fun w => allowed_yes (l : Int) (m : Int) w ⟨by omega, by omega, by omega⟩)
  have HCM := Lib.hid (fun w => codeMatrix_any l m n w hl1 hn hn2)
  obtain ⟨b0, off, ra0, rc0, e, hcr, hS0⟩ := hG.at 0 (by omega)
  rw [Nat.add_zero] at hcr
  subst e
  have HG := Lib.hid hG
  have HL := Lib.hid hl
  have HW := Lib.hid hw
  have hln : l ≤ n := by omega
  clear hG hl hn hw hS0
  generalize hk0 : (s.getD 0 []).length = k0 at *
  have HK0 := Lib.hid hk0
  clear hk0
  have l0 : (0 : Int) < (l : Int) := by omega
  go_enter Try.func42, Try.ntmps42
  go_wp2_with fail
  refine (HAY.out _).mono ?_
  rintro e w' ⟨rfl, rfl⟩
  go_wp2
  go_loop [8, 17] (fun _ i => ∃ j : Nat, j ≤ l ∧ i = .int .i64 j ∧ Hid (∀ q, q < j → (s.getD q []).length = k0)) (fun _ i => l - (intOf i).toNat)
  case atStart => exact ⟨0, Nat.zero_le _, rfl, fun q hq => by omega⟩
  case round =>
    obtain ⟨j, hj, rfl, hE⟩ := hrel
    by_cases hlt : j < l
    · obtain ⟨b', off', ra, rc, e, hcj, hSj⟩ := HG.out.at j (by rw [HL.out]; exact hlt)
      cases e
      have j0 : (0 : Int) ≤ (j : Int) := by omega
      have j1 : (j : Int) < (l : Int) := by omega
      by_cases he : (s.getD j []).length = k0
      · have HE : Hid (∀ q, q < j + 1 → (s.getD q []).length = k0) := fun q hq => by
          by_cases e : q = j
          · subst e; exact he
          · exact hE.out q (by omega)
        rw [he] at hcj
        clear he hSj
        have t : ((k0 : Int) != (k0 : Int)) = false := by simp
        go_wp2
        go_round
        case rel => exact ⟨j + 1, by omega, by go_num, HE⟩
        case measure => simp [intOf]; omega
      · have HNE : Hid (¬ Ev s) := fun h => he (by rw [h j (by rw [HL.out]; exact hlt)]; exact HK0.out)
        have t := ibne he
        have hx := Nat.le_trans hSj.le hSj.max
        unfold maxLen at hx
        clear he hSj
        generalize (s.getD j []).length = q at *
        go_wp2
        go_ret2
        exact .inl ⟨HNE.out, rfl, Below.refl _ _⟩
    · obtain rfl : j = l := by omega
      have HEV : Hid (Ev s) := fun i hi => by rw [HK0.out]; exact hE.out i (by rw [HL.out] at hi; exact hi)
      clear hcr
      go_wp2_with fail
      refine (HCM.out _).mono ?_
      rintro e w1 ⟨C, hC, hCl, G, Cc, g, c, rfl, hO, hb⟩
      have HC := Lib.hid hC
      have HCL := Lib.hid hCl
      have HO := Lib.hid hO.gridAt
      have HB := Lib.hid hb
      have HG1 := Lib.hid (HG.out.below hb)
      clear hC hCl hO hb
      go_wp2_with fail
      refine (combined_any _ _ _ _ n j C s _ HO.out HG1.out HCL.out HL.out (by omega) (by omega) ⟨by rw [HCL.out]; omega, by rw [HC.out.row 0 (by omega)]; omega, fun i hi => by rw [HCL.out] at hi; rw [HC.out.row i hi, HC.out.row 0 (by omega)]⟩ (HC.out.row 0 (by omega)) HEV.out (by rw [HK0.out]; exact HW.out)).mono ?_
      rintro e w2 ⟨hyl, a, cap, rfl, hY, hb2⟩
      have HY := Lib.hid hY
      have HYL := Lib.hid hyl
      have HB2 := Lib.hid (HB.out.trans (hb2.mono HB.out.size))
      clear hY hyl hb2
      rw [code_frags' j n C s HC.out (by omega) HL.out HEV.out HG.out.by] at HY HYL
      go_wp2
      go_ret2
      exact .inr ⟨HEV.out, HYL.out, _, _, rfl, HY.out, HB2.out⟩

/-- What is known of the chosen fragments. -/
structure Chosen (k n L : Nat) (ch : List Fr) : Prop where
  len : ch.length = k
  pos : ∀ f ∈ ch, 0 ≤ f.pos ∧ f.pos < (n : Int)
  nodup : (poss ch).Nodup
  dat : ∀ f ∈ ch, f.data.length = L

theorem good_mem {n : Nat} {fs : List Fr} (h : Good n fs) (f : Fr) (hf : f ∈ fs) : (0 ≤ f.pos ∧ f.pos < (n : Int)) ∧ f.data.length = (fs.getD 0 fr0).data.length := by
  obtain ⟨i, hi, e⟩ := List.mem_iff_getElem.mp hf
  have := h i hi
  have e2 : fs.getD i fr0 = f := by rw [List.getD_eq_getElem?_getD, List.getElem?_eq_getElem hi]; exact e
  rw [e2] at this
  exact this

theorem chosen_of {k n : Nat} {fs : List Fr} (h : Good n fs) (hk : k ≤ (firsts fs).length) : Chosen k n (fs.getD 0 fr0).data.length ((firsts fs).take k) where
  len := by rw [List.length_take]; omega
  pos f hf := (good_mem h f (firsts_mem fs f (List.mem_of_mem_take hf))).1
  nodup := by
    have : poss ((firsts fs).take k) = (poss (firsts fs)).take k := by simp [poss, List.map_take]
    rw [this]
    exact (firsts_nodup fs).sublist (List.take_sublist _ _)
  dat f hf := (good_mem h f (firsts_mem fs f (List.mem_of_mem_take hf))).2

theorem Chosen.row {k n L : Nat} {ch : List Fr} (h : Chosen k n L ch) (i : Nat) (hi : i < k) : ((dats ch).getD i []).length = L := by
  rw [dats_row ch i (by rw [h.len]; exact hi)]
  exact h.dat _ (getD_mem ch i fr0 (by rw [h.len]; exact hi))

theorem Chosen.ev {k n L : Nat} {ch : List Fr} (h : Chosen k n L ch) : Ev (dats ch) := by
  intro i hi
  rw [dats_len, h.len] at hi
  rw [h.row i hi, h.row 0 (by omega)]

/-- S are the shards behind the chosen fragments. -/
def Behind (k n : Nat) (ch : List Fr) (S : List (List Nat)) : Prop := ∃ C X, CodeOK k n C ∧ Mt.Sq k X ∧ Mt.InvOf k (crows C ch) X ∧ S = mprod X (dats ch)

theorem dec_no (k m : Int) (v : Value) (w : World) (hk : (Lit.int .i64 k).wf = true) (h : ¬ May k m) :
    Calls Try.prog 45 #[.int .i64 k, .int .i64 m, v] w fun e w' => e = .returned (.tuple #[.slice none 0 0, .int .i64 3]) ∧ w = w' := by
  have HN := Lib.hid (fun w => choose_no k m v w hk h)
  clear hk h
  go_enter Try.func45, Try.ntmps45
  go_wp2_with fail
  refine (HN.out _).mono ?_
  rintro e w' ⟨rfl, rfl⟩
  go_wp2
  go_ret2
  exact ⟨rfl, rfl⟩

/-- What Decode hands back where the code is one. -/
def DecPost (w : World) (k n : Nat) (fs : List Fr) (e : Ending) (w' : World) : Prop :=
  Below w.heap.size w w' ∧
  ((¬ Good n fs ∧ e = .returned (.tuple #[.slice none 0 0, .int .i64 2])) ∨
   (Good n fs ∧ (firsts fs).length < k ∧ e = .returned (.tuple #[.slice none 0 0, .int .i64 10])) ∨
   (Good n fs ∧ k ≤ (firsts fs).length ∧ ∃ S a cap, e = .returned (.tuple #[.slice a k cap, .int .i64 0]) ∧ GridAt w' a cap S ∧ S.length = k ∧ Behind k n ((firsts fs).take k) S))

set_option maxRecDepth 100000 in
set_option maxHeartbeats 2000000 in
theorem dec_any (fa : Option Addr) (fc l k m n : Nat) (fs : List Fr) (w : World) (hF : FrsAt w fa fc fs) (hl : fs.length = l) (hl2 : l ≤ 100000000) (hk : 1 ≤ k) (hn : k + m = n) (hn2 : n ≤ 255) (hw : (fs.getD 0 fr0).data.length ≤ 1000000000) :
    Calls Try.prog 45 #[.int .i64 (k : Int), .int .i64 (m : Int), .slice fa l fc] w (DecPost w k n fs) := by
  have HCH := Lib.hid (fun w => fun h => choose_any fa fc l k m n fs w h hl hl2 hk hn hn2)
  have HCM := Lib.hid (fun w => codeMatrix_any k m n w hk hn hn2)
  have HF := Lib.hid hF
  have HW := Lib.hid hw
  have hkn : k ≤ n := by omega
  clear hF hl hn hw
  go_enter Try.func45, Try.ntmps45
  go_wp2_with fail
  refine (HCH.out _ HF.out).mono ?_
  rintro e w1 ⟨hb1, ⟨hg, rfl⟩ | ⟨hg, hf, rfl⟩ | ⟨hg, hf, a, cap, rfl, hA⟩⟩
  · go_wp2
    go_ret2
    exact ⟨hb1, .inl ⟨hg, rfl⟩⟩
  · have HFW := Lib.hid hf
    clear hf
    go_wp2
    go_ret2
    exact ⟨hb1, .inr (.inl ⟨hg, HFW.out, rfl⟩)⟩
  · have HCO := Lib.hid (chosen_of hg hf)
    have HGO := Lib.hid hg
    have HFW := Lib.hid hf
    have HA := Lib.hid hA
    have HB1 := Lib.hid hb1
    clear hg hf hA hb1
    go_wp2_with fail
    refine (HCM.out _).mono ?_
    rintro e w2 ⟨C, hC, hCl, G, Cc, g, c, rfl, hO, hb⟩
    have HC := Lib.hid hC
    have HO := Lib.hid hO.gridAt
    have HB2 := Lib.hid (HB1.out.trans (hb.mono HB1.out.size))
    have HA2 := Lib.hid (HA.out.below hb)
    clear hC hCl hO hb
    go_wp2_with fail
    refine (restored_any _ _ _ _ n k C ((firsts fs).take k) _ HC.out HO.out HA2.out HCO.out.len hk hkn hn2 HCO.out.pos HCO.out.nodup HCO.out.ev (by rw [HCO.out.row 0 (by omega)]; exact HW.out)).mono ?_
    rintro e w3 ⟨X, sX, iX, hyl, aY, cY, rfl, hY, hb3⟩
    have HY := Lib.hid hY
    have HSX := Lib.hid sX
    have HIX := Lib.hid iX
    have HYL := Lib.hid hyl
    have HB3 := Lib.hid (HB2.out.trans (hb3.mono HB2.out.size))
    clear hY hyl hb3 sX iX
    go_wp2
    go_ret2
    exact ⟨HB3.out, .inr (.inr ⟨HGO.out, HFW.out, _, _, _, rfl, HY.out, HYL.out, C, X, HC.out, HSX.out, HIX.out, rfl⟩)⟩

end Go.Proofs.Ytjefjlalebpodaa

namespace Go.Proofs.Ytjefjlalebpodaa
open Go.RowKit

theorem Chosen.by {w : World} {a : Option Addr} {cap k n L : Nat} {ch : List Fr} (h : FrsAt w a cap ch) (hl : ch.length = k) (_ : Chosen k n L ch) : Mt.By (dats ch) := by
  intro i
  by_cases hi : i < ch.length
  · obtain ⟨_, _, _, _, _, hs⟩ := h.el i hi
    rw [dats_row ch i hi]; exact hs.byte
  · rw [show (dats ch).getD i [] = [] by rw [List.getD_eq_getElem?_getD, List.getElem?_eq_none (by rw [dats_len]; omega)]; rfl]
    exact bytes_nil

theorem npos_lt {k n L : Nat} {ch : List Fr} (h : Chosen k n L ch) : ∀ p ∈ nposs ch, p < n := by
  intro p hp
  obtain ⟨f, hf, rfl⟩ := List.mem_map.mp hp
  have := h.pos f hf
  omega

/-- The shards behind the fragments: as many as k, as wide as the fragments. -/
theorem Behind.shape {k n L : Nat} {ch : List Fr} {S : List (List Nat)} (h : Behind k n ch S) (hc : Chosen k n L ch) (hk : 0 < k) : S.length = k ∧ ∀ i, i < k → (S.getD i []).length = L := by
  obtain ⟨C, X, hC, sX, iX, rfl⟩ := h
  refine ⟨by rw [mprod_len, sX.len], fun i hi => ?_⟩
  rw [mprod_row _ _ i (by rw [sX.len]; exact hi), hc.row 0 hk]

theorem Behind.ev {k n L : Nat} {ch : List Fr} {S : List (List Nat)} (h : Behind k n ch S) (hc : Chosen k n L ch) (hk : 0 < k) : Ev S := by
  obtain ⟨h1, h2⟩ := h.shape hc hk
  intro i hi
  rw [h2 i (by omega), h2 0 hk]

/-- Their fragments at the chosen positions are the chosen ones. -/
theorem Behind.frag {k n L : Nat} {ch : List Fr} {S : List (List Nat)} (h : Behind k n ch S) (hc : Chosen k n L ch) (hk : 0 < k) (bd : Mt.By (dats ch)) (i : Nat) (hi : i < k) : frag S (ch.getD i fr0).pos.toNat = (ch.getD i fr0).data := by
  have hsh := h.shape hc hk
  have hil : i < ch.length := by rw [hc.len]; exact hi
  obtain ⟨C, X, hC, sX, iX, rfl⟩ := h
  by_cases hL : L = 0
  · have e1 : (Go.Proofs.Ytjefjlalebpodaa.frag (mprod X (dats ch)) (ch.getD i fr0).pos.toNat).length = 0 := by rw [frag_len, hsh.2 0 hk, hL]
    have e2 : (ch.getD i fr0).data.length = 0 := by rw [hc.dat _ (getD_mem ch i fr0 hil), hL]
    rw [List.eq_nil_of_length_eq_zero e1, List.eq_nil_of_length_eq_zero e2]
  · have := code_back k n L C X (dats ch) (nposs ch) hC hk (by rw [nposs_len, hc.len]) (npos_lt hc) sX iX (by rw [dats_len, hc.len]) (fun q hq => hc.row q hq) (by omega) bd i hi
    rw [nposs_get ch i hil, dats_row ch i hil] at this
    exact this

/-- Whoever has these fragments at these positions is the shards behind them. -/
theorem Behind.only {k n L : Nat} {ch : List Fr} {S T : List (List Nat)} (h : Behind k n ch S) (hc : Chosen k n L ch) (hk : 0 < k) (bd : Mt.By (dats ch)) (hT : T.length = k) (hr : ∀ i, i < k → (T.getD i []).length = L) (bT : Mt.By T)
    (hf : ∀ i, i < k → Go.Proofs.Ytjefjlalebpodaa.frag T (ch.getD i fr0).pos.toNat = (ch.getD i fr0).data) : S = T := by
  have hsh := h.shape hc hk
  obtain ⟨C, X, hC, sX, iX, rfl⟩ := h
  by_cases hL : L = 0
  · refine getD_congr _ _ [] (by rw [hsh.1, hT]) fun i hi => ?_
    rw [hsh.1] at hi
    have e1 := hsh.2 i hi
    have e2 := hr i hi
    rw [hL] at e1 e2
    rw [List.eq_nil_of_length_eq_zero e1, List.eq_nil_of_length_eq_zero e2]
  · have sdd : Sd (dats ch) := ⟨by rw [dats_len, hc.len]; exact hk, by rw [hc.row 0 hk]; omega, hc.ev⟩
    refine mat_congr _ _ L (by rw [hsh.1, hT]) (fun i hi => hsh.2 i (by rw [hsh.1] at hi; exact hi)) (fun i hi => hr i (by rw [hsh.1] at hi; exact hi)) fun i hi j hj => ?_
    rw [hsh.1] at hi
    have hx := (iX (fun l => Mt.en T l j) (fun l => Mt.en (dats ch) l j) (fun l => bT.lt l j) (fun l => bd.lt l j)).mp (fun q hq => by
      have hql : q < ch.length := by rw [hc.len]; exact hq
      have hpq := hc.pos _ (getD_mem ch q fr0 hql)
      have e1 : Mt.en (dats ch) q j = (Go.Proofs.Ytjefjlalebpodaa.frag T (ch.getD q fr0).pos.toNat).getD j 0 := by
        unfold Mt.en
        rw [dats_row ch q hql, hf q hq]
      show _ = Mt.en (dats ch) q j
      rw [e1, frag_get T _ j (by rw [hr 0 hk]; exact hj), lagr_xs _ _ (colv_bytes T j bT), colv_len, hT, crows_row C ch q hql]
      unfold Mt.dot
      apply Mt.xs_congr
      intro l hl
      rw [← hC.val _ (by omega) l hl, colv_get T l j (by omega)]
      rfl) i hi
    rw [mprod_en X (dats ch) sdd sX.byte bd i j (by rw [sX.len]; exact hi), dats_len, hc.len]
    exact hx.symm

theorem GridAt.alike {w w' : World} {a : Option Addr} {cap : Nat} {m : List (List Nat)} (h : GridAt w a cap m) (e : w'.heap = w.heap) : GridAt w' a cap m :=
  ⟨h.le, h.max, fun i hi => by
    obtain ⟨b, off, r, e1, hc, ra, rc, er, hs⟩ := h.row i hi
    exact ⟨b, off, r, e1, by rw [← hc]; simp [World.cell?, e], ra, rc, er, hs.alike e⟩⟩

/-- One row of a grid, as a slice of one. -/
theorem GridAt.one {w : World} {b off cap : Nat} {m : List (List Nat)} (h : GridAt w (some ⟨b, off, none⟩) cap m) (i : Nat) (hi : i < m.length) : GridAt w (some ⟨b, off + i, none⟩) (cap - i) [m.getD i []] := by
  have hle := h.le
  have hmx := h.max
  refine ⟨by simp; omega, by omega, fun j hj => ?_⟩
  have : j = 0 := by simpa using hj
  subst this
  obtain ⟨b', off', r, e, hc, hs⟩ := h.row i hi
  cases e
  exact ⟨b, off + i, r, rfl, hc, hs⟩

theorem GridAt.via {a b c : World} {ad : Option Addr} {cap : Nat} {m : List (List Nat)} (k : Below b.heap.size b c) (h : GridAt a ad cap m) (e : b.heap = a.heap) : GridAt c ad cap m := (h.alike e).below k

theorem slice_one (G n C p : Nat) (hp : p < C) (w : World) : (Instr.slice 30 (.slice (some ⟨G, 0, none⟩) n C) (some (.int .i64 (p : Int))) (some (.int .i64 ((p : Int) + 1))) none).run Try.prog w = .ok (.slice (some ⟨G, p, none⟩) 1 (C - p)) w := by
  rw [run_slice_lh w 30 (some ⟨G, 0, none⟩) n C (by kernel_rfl) .i64 .i64 (p : Int) ((p : Int) + 1) (by omega) (by omega) (by omega)]
  have hs : (sizeOf (Try.prog.elem 30)).run Try.prog w = .ok 1 w := by kernel_rfl
  rw [hs]
  simp only [Result.andThen, sliced]
  rw [if_neg (by omega)]
  simp [Addr.add]
  omega

theorem slice_one' (G n C p : Nat) (hp : p < C) (w : World) : (Instr.sliceAt 30 (.slice (some ⟨G, 0, none⟩) n C) (some (.int .i64 (p : Int))) (some (.int .i64 ((p : Int) + 1))) none).run Try.prog w = .ok (.slice (some ⟨G, p, none⟩) 1 (C - p)) w := by
  rw [run_sliceAt_slice w 30 _ _ _ _ (by kernel_rfl)]
  exact slice_one G n C p hp w

/-- What Rebuild hands back where the code is one and pos is none of its positions. -/
def RebNone (w : World) (k n : Nat) (fs : List Fr) (e : Ending) (w' : World) : Prop :=
  Below w.heap.size w w' ∧
  ((¬ Good n fs ∧ e = .returned (.tuple #[.slice none 0 0, .int .i64 2])) ∨
   (Good n fs ∧ (firsts fs).length < k ∧ e = .returned (.tuple #[.slice none 0 0, .int .i64 10])) ∨
   (Good n fs ∧ k ≤ (firsts fs).length ∧ e = .returned (.tuple #[.slice none 0 0, .int .i64 4])))

/-- What Rebuild hands back where the code is one and p is one of its positions. -/
def RebPost (w : World) (k n p : Nat) (fs : List Fr) (e : Ending) (w' : World) : Prop :=
  Below w.heap.size w w' ∧
  ((¬ Good n fs ∧ e = .returned (.tuple #[.slice none 0 0, .int .i64 2])) ∨
   (Good n fs ∧ (firsts fs).length < k ∧ e = .returned (.tuple #[.slice none 0 0, .int .i64 10])) ∨
   (Good n fs ∧ k ≤ (firsts fs).length ∧ ∃ S a cap, e = .returned (.tuple #[.slice a (Go.Proofs.Ytjefjlalebpodaa.frag S p).length cap, .int .i64 0]) ∧ SeenAt w' a cap (Go.Proofs.Ytjefjlalebpodaa.frag S p) ∧ Behind k n ((firsts fs).take k) S))

theorem code_one (k n p : Nat) (C S : List (List Nat)) (hC : CodeOK k n C) (hk : 0 < k) (hp : p < n) (hS : S.length = k) (eS : Ev S) (bS : Mt.By S) : (mprod [C.getD p []] S).getD 0 [] = Go.Proofs.Ytjefjlalebpodaa.frag S p := by
  rw [mprod_at _ _ 0 (by simp)]
  have := mprod_at C S p (by rw [hC.len]; exact hp)
  rw [code_frags' k n C S hC hk hS eS bS, frags_row S n p hp] at this
  exact this.symm

end Go.Proofs.Ytjefjlalebpodaa
