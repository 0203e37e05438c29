/-
  What mat's row operations on both sides do: swap, subtract.
-/
import Derived.Test.YtnhledngeicekaaWalksM8
import Derived.Test.YtnhledngeicekaaMatC
import Derived.BigRegion
import Derived.Deep.DeepCutAuto
namespace Go.Proofs.Ytnhledngeicekaa
open Go.RowKit

/-- Of the blocks that were there only such from lo to below hi have turned. -/
structure Mid (lo hi : Nat) (w w' : World) : Prop where
  os : w'.os = w.os
  tape : w'.tape = w.tape
  output : w'.output = w.output
  size : w.heap.size ≤ w'.heap.size
  block : ∀ k, k < w.heap.size → k < lo ∨ hi ≤ k → w'.heap[k]? = w.heap[k]?

theorem Mid.refl (lo hi : Nat) (w : World) : Mid lo hi w w := ⟨rfl, rfl, rfl, Nat.le_refl _, fun _ _ _ => rfl⟩
theorem Mid.trans {lo hi : Nat} {a b c : World} (h : Mid lo hi a b) (k : Mid lo hi b c) : Mid lo hi a c :=
  ⟨k.os.trans h.os, k.tape.trans h.tape, k.output.trans h.output, Nat.le_trans h.size k.size, fun i hi' hn => (k.block i (Nat.lt_of_lt_of_le hi' h.size) hn).trans (h.block i hi' hn)⟩
theorem Chg.mid {gs : List Nat} {lo hi : Nat} {a b : World} (h : Chg gs a b) (hg : ∀ g ∈ gs, lo ≤ g ∧ g < hi) : Mid lo hi a b :=
  ⟨h.os, h.tape, h.output, h.size, fun i hi' hn => h.block i hi' fun e => by have := hg i e; omega⟩
theorem Mid.cell {lo hi : Nat} {a b : World} (h : Mid lo hi a b) {p : Addr} {v : Value} (hp : a.cell? p = some v) (hn : p.block < lo ∨ hi ≤ p.block) : b.cell? p = some v :=
  (World.cell?_of_block (h.block p.block (World.block_lt_of_cell? a p hp) hn)).trans hp
theorem Mid.below {lo hi : Nat} {a b : World} (h : Mid lo hi a b) {B : Nat} {w0 : World} (hb : Below B w0 a) (hB : B ≤ a.heap.size) (hl : B ≤ lo) : Below B w0 b :=
  hb.trans ⟨h.os, h.tape, h.output, h.size, fun i hi' => h.block i (by omega) (.inl (by omega))⟩
theorem Mid.of_below {lo hi : Nat} {a b : World} (h : Below a.heap.size a b) : Mid lo hi a b := ⟨h.os, h.tape, h.output, h.size, fun i hi _ => h.block i hi⟩
theorem Mid.tab {lo hi : Nat} {a b : World} (h : Mid lo hi a b) {t : Nat} (ht : IsTab a t) (hl : t < lo) : IsTab b t where
  pow i hi := h.cell (ht.pow i hi) (.inl hl)
  log x h0 h1 := h.cell (ht.log x h0 h1) (.inl hl)

/-- The struct with the table and both sides, as reduction has it: the table is the eldest, then the left side's blocks, then the right side's, then the struct. -/
structure Red (w : World) (R tb lo mid n GL CL GR CR : Nat) (L M : List (List Nat)) : Prop where
  tlt : tb < lo
  c0 : w.cell? ⟨R, 0, none⟩ = some (.pointer (some ⟨tb, 0, none⟩))
  c1 : w.cell? ⟨R, 1, none⟩ = some (.slice (some ⟨GL, 0, none⟩) n CL)
  c2 : w.cell? ⟨R, 2, none⟩ = some (.slice (some ⟨GR, 0, none⟩) n CR)
  tab : IsTab w tb
  hGL : GL < mid
  hGR : GR < R
  lm : lo ≤ mid
  mR : mid ≤ R
  sL : Mt.Sq n L
  sM : Mt.Sq n M
  own : ∃ gl cl gr cr, OwnM w lo GL CL gl cl L ∧ OwnM w mid GR CR gr cr M ∧ (∀ i, i < n → gl i < mid) ∧ ∀ i, i < n → gr i < R

theorem OwnM.by {w : World} {base G C : Nat} {g c : Nat → Nat} {m : List (List Nat)} (h : OwnM w base G C g c m) : Mt.By m := by
  intro i
  by_cases hi : i < m.length
  · exact (h.row i hi).byte
  · rw [List.getD_eq_getElem?_getD, List.getElem?_eq_none (by omega)]; exact bytes_nil

/-- Which place comes to place k. -/
def sw (i j k : Nat) : Nat := if k = i then j else if k = j then i else k
theorem sw_lt (i j k n : Nat) (hi : i < n) (hj : j < n) (hk : k < n) : sw i j k < n := by unfold sw; split; exact hj; split; exact hi; exact hk
theorem sw_inj (i j a b : Nat) (h : sw i j a = sw i j b) : a = b := by unfold sw at h; split at h <;> split at h <;> first | omega | (split at h <;> first | omega | (split at h <;> omega))

theorem rvals_swp (g c : Nat → Nat) (m : List (List Nat)) (i j : Nat) (hi : i < m.length) (hj : j < m.length) :
    ((rvals g c m).set i (.slice (some ⟨g j, 0, none⟩) (m.getD j []).length (c j))).set j (.slice (some ⟨g i, 0, none⟩) (m.getD i []).length (c i))
      = rvals (fun k => g (sw i j k)) (fun k => c (sw i j k)) (Mt.swp [] m i j) := by
  apply List.ext_getElem?
  intro k
  by_cases hk : k < m.length
  · rw [rvals_at _ _ _ _ (by rw [Mt.swp_len]; exact hk), Mt.swp_get _ _ _ _ _ hi hj]
    by_cases e1 : k = j
    · subst e1
      rw [List.getElem?_set_self (by rw [List.length_set, rvals_len]; exact hk)]
      unfold sw
      by_cases e2 : k = i
      · subst e2; simp
      · simp [e2]
    · rw [List.getElem?_set_ne (by omega)]
      by_cases e2 : k = i
      · subst e2
        rw [List.getElem?_set_self (by rw [rvals_len]; exact hk)]
        simp [sw]
      · rw [List.getElem?_set_ne (by omega), rvals_at _ _ _ _ hk]
        simp [sw, e1, e2]
  · rw [List.getElem?_eq_none (by simp [rvals_len]; omega), List.getElem?_eq_none (by rw [rvals_len, Mt.swp_len]; omega)]

/-- Both stores of an exchange of two rows. -/
theorem OwnM.swap {w : World} {base G C : Nat} {g c : Nat → Nat} {m : List (List Nat)} (h : OwnM w base G C g c m) (i j : Nat) (hi : i < m.length) (hj : j < m.length) :
    OwnM ((w.setCell ⟨G, i, none⟩ (.slice (some ⟨g j, 0, none⟩) (m.getD j []).length (c j))).setCell ⟨G, j, none⟩ (.slice (some ⟨g i, 0, none⟩) (m.getD i []).length (c i))) base G C (fun k => g (sw i j k)) (fun k => c (sw i j k)) (Mt.swp [] m i j)
    ∧ Chg [G] w ((w.setCell ⟨G, i, none⟩ (.slice (some ⟨g j, 0, none⟩) (m.getD j []).length (c j))).setCell ⟨G, j, none⟩ (.slice (some ⟨g i, 0, none⟩) (m.getD i []).length (c i))) := by
  have s1 := World.ownsRow.stored h.outer i (.slice (some ⟨g j, 0, none⟩) (m.getD j []).length (c j))
  have s2 := World.ownsRow.stored s1.1 j (.slice (some ⟨g i, 0, none⟩) (m.getD i []).length (c i))
  have hC : Chg [G] w ((w.setCell ⟨G, i, none⟩ (.slice (some ⟨g j, 0, none⟩) (m.getD j []).length (c j))).setCell ⟨G, j, none⟩ (.slice (some ⟨g i, 0, none⟩) (m.getD i []).length (c i))) := (Chg.of_grown s1.2).trans (Chg.of_grown s2.2)
  refine ⟨⟨?_, ?_, ?_⟩, hC⟩
  · rw [← rvals_swp g c m i j hi hj, Mt.swp_len]; exact s2.1
  · intro k hk
    rw [Mt.swp_len] at hk
    have e : (Mt.swp [] m i j).getD k [] = m.getD (sw i j k) [] := Mt.swp_get _ _ _ _ _ hi hj
    rw [e]
    have hs := sw_lt i j k m.length hi hj hk
    exact (h.row _ hs).chg hC (by simp; exact h.ne _ hs)
  · intro a b ha hb e
    rw [Mt.swp_len] at ha hb
    exact sw_inj i j a b (h.inj _ _ (sw_lt i j a _ hi hj ha) (sw_lt i j b _ hi hj hb) e)

set_option maxRecDepth 100000 in
set_option maxHeartbeats 4000000 in
theorem swap_any (R tb lo mid n GL CL GR CR i j : Nat) (L M : List (List Nat)) (w : World) (h : Red w R tb lo mid n GL CL GR CR L M) (hi : i < n) (hj : j < n) :
    Calls Try.prog 51 #[.pointer (some ⟨R, 0, none⟩), .int .i64 (i : Int), .int .i64 (j : Int)] w fun e w' => e = .returned (.tuple #[]) ∧ Red w' R tb lo mid n GL CL GR CR (Mt.swp [] L i j) (Mt.swp [] M i j) ∧ Mid lo R w w' := by
  obtain ⟨gl, cl, gr, cr, hL, hM, hgl, hgr⟩ := h.own
  have HH := Lib.hid h
  have c1 := h.c1
  have cLi := hL.cell i (by rw [h.sL.len]; exact hi)
  have cLj := hL.cell j (by rw [h.sL.len]; exact hj)
  rw [h.sL.row i hi] at cLi
  rw [h.sL.row j hj] at cLj
  have fL := hL.frozen i
  have sw1 := hL.swap i j (by rw [h.sL.len]; exact hi) (by rw [h.sL.len]; exact hj)
  rw [h.sL.row i hi, h.sL.row j hj] at sw1
  have st1 := World.ownsRow.stored hL.outer i (.slice (some ⟨gl j, 0, none⟩) n (cl j))
  have cL2 : ∃ v, (w.setCell ⟨GL, i, none⟩ (.slice (some ⟨gl j, 0, none⟩) n (cl j))).cell? ⟨GL, j, none⟩ = some v := by
    rw [World.ownsRow.cellAt st1.1 j (by rw [h.sL.len]; omega)]
    exact ⟨_, List.getElem?_eq_getElem (by rw [List.length_set, rvals_len, h.sL.len]; exact hj)⟩
  obtain ⟨v2, cL2⟩ := cL2
  have fL2 := World.ownsRow.frozenAt st1.1 j
  have HM := Lib.hid hM
  have HSW := Lib.hid sw1
  have HGL := Lib.hid hgl
  have HGR := Lib.hid hgr
  have hR1 : R ≠ GL := by have := h.hGL; have := h.mR; omega
  clear h hL hM sw1 st1 hgl hgr
  have i0 : (0 : Int) ≤ (i : Int) := by omega
  have i1 : (i : Int) < (n : Int) := by omega
  have j0 : (0 : Int) ≤ (j : Int) := by omega
  have j1 : (j : Int) < (n : Int) := by omega
  go_enter Try.func51, Try.ntmps51
  go_upto_region 0 with fail
  go_cut [] (fun wx => Hid (OwnM wx lo GL CL (fun k => gl (sw i j k)) (fun k => cl (sw i j k)) (Mt.swp [] L i j) ∧ Chg [GL] w wx))
  case first =>
    go_region
    all_goals (go_wp2_with fail; go_meet; exact ⟨HSW.out.1.chg (gs := []) (Chg.refl _ _).drew (by simp) (by simp), HSW.out.2.drew⟩)
  case rest =>
  have HS1 := hcut
  clear hcut HSW c1 cLi cLj fL cL2 fL2
  generalize wc = w1 at *
  have hM1 : OwnM w1 mid GR CR gr cr M := HM.out.chg HS1.out.2 (by have := HM.out.lt.1; have := HH.out.hGL; simp; omega) (fun k hk => by have := (HM.out.row k hk).lt.1; have := HH.out.hGL; simp; omega)
  have c2 := HS1.out.2.cell HH.out.c2 (by simp; exact hR1)
  have cRi := hM1.cell i (by rw [HH.out.sM.len]; exact hi)
  have cRj := hM1.cell j (by rw [HH.out.sM.len]; exact hj)
  rw [HH.out.sM.row i hi] at cRi
  rw [HH.out.sM.row j hj] at cRj
  have fR := hM1.frozen i
  have sw2 := hM1.swap i j (by rw [HH.out.sM.len]; exact hi) (by rw [HH.out.sM.len]; exact hj)
  rw [HH.out.sM.row i hi, HH.out.sM.row j hj] at sw2
  have st2 := World.ownsRow.stored hM1.outer i (.slice (some ⟨gr j, 0, none⟩) n (cr j))
  have cR2 : ∃ v, (w1.setCell ⟨GR, i, none⟩ (.slice (some ⟨gr j, 0, none⟩) n (cr j))).cell? ⟨GR, j, none⟩ = some v := by
    rw [World.ownsRow.cellAt st2.1 j (by rw [HH.out.sM.len]; omega)]
    exact ⟨_, List.getElem?_eq_getElem (by rw [List.length_set, rvals_len, HH.out.sM.len]; exact hj)⟩
  obtain ⟨v3, cR2⟩ := cR2
  have fR2 := World.ownsRow.frozenAt st2.1 j
  have HSW := Lib.hid sw2
  have hR2 : R ≠ GR := by have := HH.out.hGR; omega
  clear sw2 st2 hM1
  go_wp2
  go_region
  go_wp2
  have HS2 := Lib.hid (And.intro (HSW.out.1.chg (gs := []) (Chg.refl _ _).drew (by simp) (by simp)) HSW.out.2.drew)
  clear HSW c2 cRi cRj fR cR2 fR2
  generalize World.drew _ = w2 at HS2 ⊢
  go_end0
  have h := HH.out
  have C1 := HS1.out.2
  have C2 := HS2.out.2
  have hGR := h.hGR
  have hGL := h.hGL
  have hlm := h.lm
  have hmR := h.mR
  have hGLlo := HS1.out.1.lt.1
  have hGRmid := HM.out.lt.1
  have hMid : Mid lo R w w2 := (C1.mid (by simp; omega)).trans (C2.mid (by simp; omega))
  refine ⟨rfl, ⟨h.tlt, hMid.cell h.c0 (.inr (Nat.le_refl _)), hMid.cell h.c1 (.inr (Nat.le_refl _)), hMid.cell h.c2 (.inr (Nat.le_refl _)), hMid.tab h.tab h.tlt, hGL, hGR, hlm, hmR, h.sL.swp i j hi hj, h.sM.swp i j hi hj,
    ⟨_, _, _, _, HS1.out.1.chg C2 (by simp; omega) (fun k hk => ?_), HS2.out.1, fun k hk => HGL.out _ (sw_lt i j k n hi hj hk), fun k hk => HGR.out _ (sw_lt i j k n hi hj hk)⟩⟩, hMid⟩
  rw [Mt.swp_len, h.sL.len] at hk
  have := HGL.out _ (sw_lt i j k n hi hj hk)
  simp
  omega

end Go.Proofs.Ytnhledngeicekaa
