/-
  What mat's row operations on both sides do: swap, subtract.
  What mat's subtract does: a multiple of one row added to another, on both sides.
  What the search for a pivot does; rows written on one side.
-/
import Derived.Test.YtjefjlalebpodaaWalksM6
import Derived.Test.YtjefjlalebpodaaMats
import Derived.BigRegion
import Derived.Deep.DeepCutAuto
namespace Go.Proofs.Ytjefjlalebpodaa
open Go.RowKit

/-- Of the blocks that were there only such from lo to below hi have turned. -/
structure Mid (lo hi : Nat) (w w' : World) : Prop where
  os : w'.os = w.os
  tape : w'.tape = w.tape
  output : w'.output = w.output
  size : w.heap.size ≤ w'.heap.size
  block : ∀ k, k < w.heap.size → k < lo ∨ hi ≤ k → w'.heap[k]? = w.heap[k]?

theorem Mid.refl (lo hi : Nat) (w : World) : Mid lo hi w w := ⟨rfl, rfl, rfl, Nat.le_refl _, fun _ _ _ => rfl⟩
theorem Mid.trans {lo hi : Nat} {a b c : World} (h : Mid lo hi a b) (k : Mid lo hi b c) : Mid lo hi a c :=
  ⟨k.os.trans h.os, k.tape.trans h.tape, k.output.trans h.output, Nat.le_trans h.size k.size, fun i hi' hn => (k.block i (Nat.lt_of_lt_of_le hi' h.size) hn).trans (h.block i hi' hn)⟩
theorem Chg.mid {gs : List Nat} {lo hi : Nat} {a b : World} (h : Chg gs a b) (hg : ∀ g ∈ gs, lo ≤ g ∧ g < hi) : Mid lo hi a b :=
  ⟨h.os, h.tape, h.output, h.size, fun i hi' hn => h.block i hi' fun e => by have := hg i e; omega⟩
theorem Mid.cell {lo hi : Nat} {a b : World} (h : Mid lo hi a b) {p : Addr} {v : Value} (hp : a.cell? p = some v) (hn : p.block < lo ∨ hi ≤ p.block) : b.cell? p = some v :=
  (World.cell?_of_block (h.block p.block (World.block_lt_of_cell? a p hp) hn)).trans hp
theorem Mid.below {lo hi : Nat} {a b : World} (h : Mid lo hi a b) {B : Nat} {w0 : World} (hb : Below B w0 a) (hB : B ≤ a.heap.size) (hl : B ≤ lo) : Below B w0 b :=
  hb.trans ⟨h.os, h.tape, h.output, h.size, fun i hi' => h.block i (by omega) (.inl (by omega))⟩
theorem Mid.of_below {lo hi : Nat} {a b : World} (h : Below a.heap.size a b) : Mid lo hi a b := ⟨h.os, h.tape, h.output, h.size, fun i hi _ => h.block i hi⟩
theorem Mid.tab {lo hi : Nat} {a b : World} (h : Mid lo hi a b) {t : Nat} (ht : IsTab a t) (hl : t < lo) : IsTab b t where
  pow i hi := h.cell (ht.pow i hi) (.inl hl)
  log x h0 h1 := h.cell (ht.log x h0 h1) (.inl hl)

/-- The struct with the table and both sides, as reduction has it: the table is the eldest, then the left side's blocks, then the right side's, then the struct. -/
structure Red (w : World) (R tb lo mid n GL CL GR CR : Nat) (L M : List (List Nat)) : Prop where
  tlt : tb < lo
  c0 : w.cell? ⟨R, 0, none⟩ = some (.pointer (some ⟨tb, 0, none⟩))
  c1 : w.cell? ⟨R, 1, none⟩ = some (.slice (some ⟨GL, 0, none⟩) n CL)
  c2 : w.cell? ⟨R, 2, none⟩ = some (.slice (some ⟨GR, 0, none⟩) n CR)
  tab : IsTab w tb
  hGL : GL < mid
  hGR : GR < R
  lm : lo ≤ mid
  mR : mid ≤ R
  sL : Mt.Sq n L
  sM : Mt.Sq n M
  own : ∃ gl cl gr cr, OwnM w lo GL CL gl cl L ∧ OwnM w mid GR CR gr cr M ∧ (∀ i, i < n → gl i < mid) ∧ ∀ i, i < n → gr i < R

theorem OwnM.by {w : World} {base G C : Nat} {g c : Nat → Nat} {m : List (List Nat)} (h : OwnM w base G C g c m) : Mt.By m := by
  intro i
  by_cases hi : i < m.length
  · exact (h.row i hi).byte
  · rw [List.getD_eq_getElem?_getD, List.getElem?_eq_none (by omega)]; exact bytes_nil

/-- Which place comes to place k. -/
def sw (i j k : Nat) : Nat := if k = i then j else if k = j then i else k
theorem sw_lt (i j k n : Nat) (hi : i < n) (hj : j < n) (hk : k < n) : sw i j k < n := by unfold sw; split; exact hj; split; exact hi; exact hk
theorem sw_inj (i j a b : Nat) (h : sw i j a = sw i j b) : a = b := by unfold sw at h; split at h <;> split at h <;> first | omega | (split at h <;> first | omega | (split at h <;> omega))

theorem rvals_swp (g c : Nat → Nat) (m : List (List Nat)) (i j : Nat) (hi : i < m.length) (hj : j < m.length) :
    ((rvals g c m).set i (.slice (some ⟨g j, 0, none⟩) (m.getD j []).length (c j))).set j (.slice (some ⟨g i, 0, none⟩) (m.getD i []).length (c i))
      = rvals (fun k => g (sw i j k)) (fun k => c (sw i j k)) (Mt.swp [] m i j) := by
  apply List.ext_getElem?
  intro k
  by_cases hk : k < m.length
  · rw [rvals_at _ _ _ _ (by rw [Mt.swp_len]; exact hk), Mt.swp_get _ _ _ _ _ hi hj]
    by_cases e1 : k = j
    · subst e1
      rw [List.getElem?_set_self (by rw [List.length_set, rvals_len]; exact hk)]
      unfold sw
      by_cases e2 : k = i
      · subst e2; simp
      · simp [e2]
    · rw [List.getElem?_set_ne (by omega)]
      by_cases e2 : k = i
      · subst e2
        rw [List.getElem?_set_self (by rw [rvals_len]; exact hk)]
        simp [sw]
      · rw [List.getElem?_set_ne (by omega), rvals_at _ _ _ _ hk]
        simp [sw, e1, e2]
  · rw [List.getElem?_eq_none (by simp [rvals_len]; omega), List.getElem?_eq_none (by rw [rvals_len, Mt.swp_len]; omega)]

/-- Both stores of an exchange of two rows. -/
theorem OwnM.swap {w : World} {base G C : Nat} {g c : Nat → Nat} {m : List (List Nat)} (h : OwnM w base G C g c m) (i j : Nat) (hi : i < m.length) (hj : j < m.length) :
    OwnM ((w.setCell ⟨G, i, none⟩ (.slice (some ⟨g j, 0, none⟩) (m.getD j []).length (c j))).setCell ⟨G, j, none⟩ (.slice (some ⟨g i, 0, none⟩) (m.getD i []).length (c i))) base G C (fun k => g (sw i j k)) (fun k => c (sw i j k)) (Mt.swp [] m i j)
    ∧ Chg [G] w ((w.setCell ⟨G, i, none⟩ (.slice (some ⟨g j, 0, none⟩) (m.getD j []).length (c j))).setCell ⟨G, j, none⟩ (.slice (some ⟨g i, 0, none⟩) (m.getD i []).length (c i))) := by
  have s1 := World.ownsRow.stored h.outer i (.slice (some ⟨g j, 0, none⟩) (m.getD j []).length (c j))
  have s2 := World.ownsRow.stored s1.1 j (.slice (some ⟨g i, 0, none⟩) (m.getD i []).length (c i))
  have hC : Chg [G] w ((w.setCell ⟨G, i, none⟩ (.slice (some ⟨g j, 0, none⟩) (m.getD j []).length (c j))).setCell ⟨G, j, none⟩ (.slice (some ⟨g i, 0, none⟩) (m.getD i []).length (c i))) := (Chg.of_grown s1.2).trans (Chg.of_grown s2.2)
  refine ⟨⟨?_, ?_, ?_⟩, hC⟩
  · rw [← rvals_swp g c m i j hi hj, Mt.swp_len]; exact s2.1
  · intro k hk
    rw [Mt.swp_len] at hk
    have e : (Mt.swp [] m i j).getD k [] = m.getD (sw i j k) [] := Mt.swp_get _ _ _ _ _ hi hj
    rw [e]
    have hs := sw_lt i j k m.length hi hj hk
    exact (h.row _ hs).chg hC (by simp; exact h.ne _ hs)
  · intro a b ha hb e
    rw [Mt.swp_len] at ha hb
    exact sw_inj i j a b (h.inj _ _ (sw_lt i j a _ hi hj ha) (sw_lt i j b _ hi hj hb) e)

set_option maxRecDepth 100000 in
set_option maxHeartbeats 4000000 in
theorem swap_any (R tb lo mid n GL CL GR CR i j : Nat) (L M : List (List Nat)) (w : World) (h : Red w R tb lo mid n GL CL GR CR L M) (hi : i < n) (hj : j < n) :
    Calls Try.prog 84 #[.pointer (some ⟨R, 0, none⟩), .int .i64 (i : Int), .int .i64 (j : Int)] w fun e w' => e = .returned (.tuple #[]) ∧ Red w' R tb lo mid n GL CL GR CR (Mt.swp [] L i j) (Mt.swp [] M i j) ∧ Mid lo R w w' := by
  obtain ⟨gl, cl, gr, cr, hL, hM, hgl, hgr⟩ := h.own
  have HH := Lib.hid h
  have c1 := h.c1
  have cLi := hL.cell i (by rw [h.sL.len]; exact hi)
  have cLj := hL.cell j (by rw [h.sL.len]; exact hj)
  rw [h.sL.row i hi] at cLi
  rw [h.sL.row j hj] at cLj
  have fL := hL.frozen i
  have sw1 := hL.swap i j (by rw [h.sL.len]; exact hi) (by rw [h.sL.len]; exact hj)
  rw [h.sL.row i hi, h.sL.row j hj] at sw1
  have st1 := World.ownsRow.stored hL.outer i (.slice (some ⟨gl j, 0, none⟩) n (cl j))
  have cL2 : ∃ v, (w.setCell ⟨GL, i, none⟩ (.slice (some ⟨gl j, 0, none⟩) n (cl j))).cell? ⟨GL, j, none⟩ = some v := by
    rw [World.ownsRow.cellAt st1.1 j (by rw [h.sL.len]; omega)]
    exact ⟨_, List.getElem?_eq_getElem (by rw [List.length_set, rvals_len, h.sL.len]; exact hj)⟩
  obtain ⟨v2, cL2⟩ := cL2
  have fL2 := World.ownsRow.frozenAt st1.1 j
  have HM := Lib.hid hM
  have HSW := Lib.hid sw1
  have HGL := Lib.hid hgl
  have HGR := Lib.hid hgr
  have hR1 : R ≠ GL := by have := h.hGL; have := h.mR; omega
  clear h hL hM sw1 st1 hgl hgr
  have i0 : (0 : Int) ≤ (i : Int) := by omega
  have i1 : (i : Int) < (n : Int) := by omega
  have j0 : (0 : Int) ≤ (j : Int) := by omega
  have j1 : (j : Int) < (n : Int) := by omega
  go_enter Try.func84, Try.ntmps84
  go_upto_region 0 with fail
  go_cut [] (fun wx => Hid (OwnM wx lo GL CL (fun k => gl (sw i j k)) (fun k => cl (sw i j k)) (Mt.swp [] L i j) ∧ Chg [GL] w wx))
  case first =>
    go_region
    all_goals (go_wp2_with fail; go_meet; exact ⟨HSW.out.1.chg (gs := []) (Chg.refl _ _).drew (by simp) (by simp), HSW.out.2.drew⟩)
  case rest =>
  have HS1 := hcut
  clear hcut HSW c1 cLi cLj fL cL2 fL2
  generalize wc = w1 at *
  have hM1 : OwnM w1 mid GR CR gr cr M := HM.out.chg HS1.out.2 (by have := HM.out.lt.1; have := HH.out.hGL; simp; omega) (fun k hk => by have := (HM.out.row k hk).lt.1; have := HH.out.hGL; simp; omega)
  have c2 := HS1.out.2.cell HH.out.c2 (by simp; exact hR1)
  have cRi := hM1.cell i (by rw [HH.out.sM.len]; exact hi)
  have cRj := hM1.cell j (by rw [HH.out.sM.len]; exact hj)
  rw [HH.out.sM.row i hi] at cRi
  rw [HH.out.sM.row j hj] at cRj
  have fR := hM1.frozen i
  have sw2 := hM1.swap i j (by rw [HH.out.sM.len]; exact hi) (by rw [HH.out.sM.len]; exact hj)
  rw [HH.out.sM.row i hi, HH.out.sM.row j hj] at sw2
  have st2 := World.ownsRow.stored hM1.outer i (.slice (some ⟨gr j, 0, none⟩) n (cr j))
  have cR2 : ∃ v, (w1.setCell ⟨GR, i, none⟩ (.slice (some ⟨gr j, 0, none⟩) n (cr j))).cell? ⟨GR, j, none⟩ = some v := by
    rw [World.ownsRow.cellAt st2.1 j (by rw [HH.out.sM.len]; omega)]
    exact ⟨_, List.getElem?_eq_getElem (by rw [List.length_set, rvals_len, HH.out.sM.len]; exact hj)⟩
  obtain ⟨v3, cR2⟩ := cR2
  have fR2 := World.ownsRow.frozenAt st2.1 j
  have HSW := Lib.hid sw2
  have hR2 : R ≠ GR := by have := HH.out.hGR; omega
  clear sw2 st2 hM1
  go_wp2
  go_region
  go_wp2
  have HS2 := Lib.hid (And.intro (HSW.out.1.chg (gs := []) (Chg.refl _ _).drew (by simp) (by simp)) HSW.out.2.drew)
  clear HSW c2 cRi cRj fR cR2 fR2
  generalize World.drew _ = w2 at HS2 ⊢
  go_end0
  have h := HH.out
  have C1 := HS1.out.2
  have C2 := HS2.out.2
  have hGR := h.hGR
  have hGL := h.hGL
  have hlm := h.lm
  have hmR := h.mR
  have hGLlo := HS1.out.1.lt.1
  have hGRmid := HM.out.lt.1
  have hMid : Mid lo R w w2 := (C1.mid (by simp; omega)).trans (C2.mid (by simp; omega))
  refine ⟨rfl, ⟨h.tlt, hMid.cell h.c0 (.inr (Nat.le_refl _)), hMid.cell h.c1 (.inr (Nat.le_refl _)), hMid.cell h.c2 (.inr (Nat.le_refl _)), hMid.tab h.tab h.tlt, hGL, hGR, hlm, hmR, h.sL.swp i j hi hj, h.sM.swp i j hi hj,
    ⟨_, _, _, _, HS1.out.1.chg C2 (by simp; omega) (fun k hk => ?_), HS2.out.1, fun k hk => HGL.out _ (sw_lt i j k n hi hj hk), fun k hk => HGR.out _ (sw_lt i j k n hi hj hk)⟩⟩, hMid⟩
  rw [Mt.swp_len, h.sL.len] at hk
  have := HGL.out _ (sw_lt i j k n hi hj hk)
  simp
  omega

end Go.Proofs.Ytjefjlalebpodaa

namespace Go.Proofs.Ytjefjlalebpodaa
open Go.RowKit

set_option maxRecDepth 100000 in
set_option maxHeartbeats 4000000 in
theorem subtract_any (R tb lo mid n GL CL GR CR i r f : Nat) (L M : List (List Nat)) (w : World) (h : Red w R tb lo mid n GL CL GR CR L M) (hi : i < n) (hr : r < n) (hne : r ≠ i) (hf : f < 256) :
    Calls Try.prog 87 #[.pointer (some ⟨R, 0, none⟩), .int .i64 (i : Int), .int .i64 (r : Int), .int .u8 (f : Int)] w fun e w' => e = .returned (.tuple #[]) ∧
      Red w' R tb lo mid n GL CL GR CR (L.set i (Mt.addMul (L.getD i []) (L.getD r []) f)) (M.set i (Mt.addMul (M.getD i []) (M.getD r []) f)) ∧ Mid lo R w w' := by
  obtain ⟨gl, cl, gr, cr, hL, hM, hgl, hgr⟩ := h.own
  have HH := Lib.hid h
  have c0 := h.c0
  have c1 := h.c1
  have hi' : i < L.length := by rw [h.sL.len]; exact hi
  have hr' : r < L.length := by rw [h.sL.len]; exact hr
  have cLi := hL.cell i hi'
  have cLr := hL.cell r hr'
  rw [h.sL.row i hi] at cLi
  rw [h.sL.row r hr] at cLr
  have HO := Lib.hid (hL.row i hi')
  have HS := Lib.hid (hL.row r hr').seenAt
  have HLL := Lib.hid hL
  have HM := Lib.hid hM
  have HGL := Lib.hid hgl
  have HGR := Lib.hid hgr
  have HI := Lib.hid hi'
  have HLi := Lib.hid (h.sL.row i hi)
  have HLr := Lib.hid (h.sL.row r hr)
  have n1 : gl i ≠ GL := hL.ne i hi'
  have n2 : gl r ≠ gl i := fun e => hne (hL.inj r i hr' hi' e)
  have n3 : gl i < R := by have := hgl i hi; have := h.mR; omega
  have n4 : tb < gl i := by have := (hL.row i hi').lt.1; have := h.tlt; omega
  have HT := Lib.hid h.tab
  have K0 := Lib.hid c0
  have K1 := Lib.hid c1
  have K2 := Lib.hid cLi
  have K3 := Lib.hid cLr
  clear h hL hM hgl hgr hi' hr'
  have i0 : (0 : Int) ≤ (i : Int) := by omega
  have i1 : (i : Int) < (n : Int) := by omega
  have j0 : (0 : Int) ≤ (r : Int) := by omega
  have j1 : (r : Int) < (n : Int) := by omega
  go_enter Try.func87, Try.ntmps87
  go_upto_region 0 with fail
  go_cut [] (fun wx => Hid (OwnB wx lo (gl i) (cl i) (Mt.addMul (L.getD i []) (L.getD r []) f) ∧ Chg [gl i] w wx))
  case first =>
    go_region_held3 (fun w' => w'.cell? ⟨R, 0, none⟩ = some (.pointer (some ⟨tb, 0, none⟩)) ∧ w'.cell? ⟨R, 1, none⟩ = some (.slice (some ⟨GL, 0, none⟩) n CL) ∧ w'.cell? ⟨GL, i, none⟩ = some (.slice (some ⟨gl i, 0, none⟩) n (cl i)) ∧ w'.cell? ⟨GL, r, none⟩ = some (.slice (some ⟨gl r, 0, none⟩) n (cl r)))
      (first | go_keep | exact ⟨hC2.cell K0.out (by simp; omega), hC2.cell K1.out (by simp; omega), hC2.cell K2.out (by simp; omega), hC2.cell K3.out (by simp; omega)⟩)
      ((go_at_call 70; (with_reducible refine (addMul_at _ _ _ lo _ _ _ _ (L.getD i []) (L.getD r []) _ _ ?_ ?_ ?_ ?_ ?_ ?_ ?_ ?_ ?_).mono ?_); (exact HT.out.alike rfl); omega; (exact HO.out.alike rfl); (exact HS.out.alike rfl); (intro b off e; cases e; exact n2); (exact HLi.out); (exact HLr.out); omega; (exact hf); rintro e w5 ⟨rfl, hO2, hC2⟩))
    all_goals (go_wp2_with fail; go_meet; exact ⟨hO2, ((Chg.refl _ _).drew).trans hC2⟩)
  case rest =>
  have HC := hcut
  clear hcut c0 c1 cLi cLr HO HS K2 K3 HLi HLr
  generalize wc = w1 at *
  have hGLm := HH.out.hGL
  have hM1 : OwnM w1 mid GR CR gr cr M := HM.out.chg HC.out.2 (by have := HM.out.lt.1; have := HGL.out i hi; simp; omega) (fun k hk => by have := (HM.out.row k hk).lt.1; have := HGL.out i hi; simp; omega)
  have hi' : i < M.length := by rw [HH.out.sM.len]; exact hi
  have hr' : r < M.length := by rw [HH.out.sM.len]; exact hr
  have c0 := HC.out.2.cell K0.out (by simp; omega)
  have c2 := HC.out.2.cell HH.out.c2 (by simp; omega)
  have cRi := hM1.cell i hi'
  have cRr := hM1.cell r hr'
  rw [HH.out.sM.row i hi] at cRi
  rw [HH.out.sM.row r hr] at cRr
  have HO := Lib.hid (hM1.row i hi')
  have HS := Lib.hid (hM1.row r hr').seenAt
  have HMi := Lib.hid (HH.out.sM.row i hi)
  have HMr := Lib.hid (HH.out.sM.row r hr)
  have m1 : gr i ≠ GR := hM1.ne i hi'
  have m2 : gr r ≠ gr i := fun e => hne (hM1.inj r i hr' hi' e)
  have m3 : gr i < R := HGR.out i hi
  have m4 : tb < gr i := by have := (hM1.row i hi').lt.1; have := HH.out.tlt; have := HH.out.lm; omega
  have HM1 := Lib.hid hM1
  have HT1 := Lib.hid (HT.out.chg HC.out.2 (by simp; omega))
  have K2 := Lib.hid c2
  have K3 := Lib.hid cRi
  have K4 := Lib.hid cRr
  have K5 := Lib.hid c0
  clear hM1
  go_wp2
  go_region_held3 (fun w' => w'.cell? ⟨R, 0, none⟩ = some (.pointer (some ⟨tb, 0, none⟩)) ∧ w'.cell? ⟨R, 2, none⟩ = some (.slice (some ⟨GR, 0, none⟩) n CR) ∧ w'.cell? ⟨GR, i, none⟩ = some (.slice (some ⟨gr i, 0, none⟩) n (cr i)) ∧ w'.cell? ⟨GR, r, none⟩ = some (.slice (some ⟨gr r, 0, none⟩) n (cr r)))
    (first | go_keep | exact ⟨hC2.cell K5.out (by simp; omega), hC2.cell K2.out (by simp; omega), hC2.cell K3.out (by simp; omega), hC2.cell K4.out (by simp; omega)⟩)
    ((go_at_call 70; (with_reducible refine (addMul_at _ _ _ mid _ _ _ _ (M.getD i []) (M.getD r []) _ _ ?_ ?_ ?_ ?_ ?_ ?_ ?_ ?_ ?_).mono ?_); (exact HT1.out.alike rfl); omega; (exact HO.out.alike rfl); (exact HS.out.alike rfl); (intro b off e; cases e; exact m2); (exact HMi.out); (exact HMr.out); omega; (exact hf); rintro e w5 ⟨rfl, hO2, hC2⟩))
  go_wp2
  go_end0
  have h := HH.out
  have C1 := HC.out.2
  have C2 : Chg [gr i] w1 w5 := ((Chg.refl _ _).drew).trans hC2
  have hGR := h.hGR
  have hlm := h.lm
  have hmR := h.mR
  have l1 := (HLL.out.row i HI.out).lt.1
  have l2 := (HM.out.row i hi').lt.1
  have l3 := HGL.out i hi
  have hMid : Mid lo R w w5 := (C1.mid (by simp; omega)).trans (C2.mid (by simp; omega))
  refine ⟨rfl, ⟨h.tlt, hMid.cell h.c0 (.inr (Nat.le_refl _)), hMid.cell h.c1 (.inr (Nat.le_refl _)), hMid.cell h.c2 (.inr (Nat.le_refl _)), hMid.tab h.tab h.tlt, h.hGL, hGR, hlm, hmR,
    h.sL.set i _ (by rw [Mt.addMul_len]; exact h.sL.row i hi) (Mt.addMul_bytes _ _ _ (h.sL.byte i) (h.sL.byte r)), h.sM.set i _ (by rw [Mt.addMul_len]; exact h.sM.row i hi) (Mt.addMul_bytes _ _ _ (h.sM.byte i) (h.sM.byte r)),
    ⟨gl, cl, gr, cr, (HLL.out.setRow i HI.out _ C1 HC.out.1 (by rw [Mt.addMul_len])).chg C2 (by simp; omega) (fun k hk => ?_), HM1.out.setRow i hi' _ C2 hO2 (by rw [Mt.addMul_len]), HGL.out, HGR.out⟩⟩, hMid⟩
  rw [List.length_set, h.sL.len] at hk
  have := HGL.out k hk
  simp
  omega

end Go.Proofs.Ytjefjlalebpodaa

namespace Go.Proofs.Ytjefjlalebpodaa
open Go.RowKit

theorem GridAt.drop {w : World} {b off cap : Nat} {m : List (List Nat)} (h : GridAt w (some ⟨b, off, none⟩) cap m) (k : Nat) (hk : k ≤ m.length) : GridAt w (some ⟨b, off + k, none⟩) (cap - k) (m.drop k) :=
  ⟨by have := h.le; simp; omega, by have := h.max; omega, fun i hi => by
    have hi' : k + i < m.length := by rw [List.length_drop] at hi; omega
    obtain ⟨b', off', r, e, hc, hs⟩ := h.row (k + i) hi'
    cases e
    refine ⟨b, off + k, r, rfl, by rw [Nat.add_assoc]; exact hc, ?_⟩
    rw [List.getD_eq_getElem?_getD, List.getElem?_drop, ← List.getD_eq_getElem?_getD]
    exact hs⟩

set_option maxHeartbeats 1000000 in
theorem clo_no (b off n rc col : Nat) (cp : Addr) (w : World) (hcn : col < n) (hc : w.cell? cp = some (.int .i64 (col : Int))) (hx : w.cell? ⟨b, off + col, none⟩ = some (.int .u8 0)) :
    Calls Try.prog 83 #[.slice (some ⟨b, off, none⟩) n rc, .pointer (some cp)] w fun e w' => e = .returned (.bool false) ∧ w = w' := by
  have i0 : (0 : Int) ≤ (col : Int) := by omega
  have i1 : (col : Int) < (n : Int) := by omega
  go_enter Try.func83, Try.ntmps83
  go_wp2
  go_ret
  exact ⟨rfl, rfl⟩

set_option maxHeartbeats 1000000 in
theorem clo_yes (b off n rc col x : Nat) (cp : Addr) (w : World) (hcn : col < n) (hc : w.cell? cp = some (.int .i64 (col : Int))) (hx : w.cell? ⟨b, off + col, none⟩ = some (.int .u8 (x : Int))) (h0 : x ≠ 0) :
    Calls Try.prog 83 #[.slice (some ⟨b, off, none⟩) n rc, .pointer (some cp)] w fun e w' => e = .returned (.bool true) ∧ w = w' := by
  have i0 : (0 : Int) ≤ (col : Int) := by omega
  have i1 : (col : Int) < (n : Int) := by omega
  have t : ((x : Int) != 0) = true := by simp; omega
  go_enter Try.func83, Try.ntmps83
  go_wp2
  go_ret
  exact ⟨rfl, rfl⟩

set_option maxHeartbeats 1000000 in
theorem idx_clo (va : Option Addr) (vc n col : Nat) (cp : Addr) (m : List (List Nat)) (w : World) (hG : GridAt w va vc m) (hl : ∀ i, i < m.length → (m.getD i []).length = n) (hcn : col < n) (hc : w.cell? cp = some (.int .i64 (col : Int))) :
    Calls Try.prog 82 #[.slice va m.length vc, .func (.func 83) #[] #[.pointer (some cp)]] w (IdxPost w m.length fun i => Mt.en m i col ≠ 0) := by
  have hm' : m.length ≤ maxLen := Nat.le_trans hG.le hG.max
  unfold maxLen at hm'
  have HG := Lib.hid hG
  have HL := Lib.hid hl
  clear hG hl
  go_enter Try.func82, Try.ntmps82
  go_wp2
  go_loop [5, 8] (fun _ i => ∃ j : Nat, j ≤ m.length ∧ i = .int .i64 j ∧ Hid (∀ i, i < j → ¬ Mt.en m i col ≠ 0)) (fun _ i => m.length - (intOf i).toNat)
  case atStart => exact ⟨0, Nat.zero_le _, rfl, fun i hi => by omega⟩
  case round =>
    obtain ⟨j, hj, rfl, hN⟩ := hrel
    by_cases hlt : j < m.length
    · obtain ⟨b, off, ra, rc, e, hcr, hS⟩ := HG.out.at j hlt
      subst e
      rw [HL.out j hlt] at hcr
      obtain ⟨xb, xoff, e, hx⟩ := hS.cell col (by rw [HL.out j hlt]; exact hcn)
      subst e
      have hx' : w.cell? ⟨xb, xoff + col, none⟩ = some (.int .u8 ((Mt.en m j col : Nat) : Int)) := hx
      have HX := Lib.hid hx'
      clear hx hx' hS
      by_cases he : Mt.en m j col = 0
      · have HE := Lib.hid he
        clear he
        have hxz : w.cell? ⟨xb, xoff + col, none⟩ = some (.int .u8 0) := by have := HX.out; rw [HE.out] at this; exact this
        have HZ := Lib.hid hxz
        clear hxz
        go_wp2_with fail
        refine (clo_no _ _ _ _ _ _ _ hcn hc HZ.out).mono ?_
        rintro e w' ⟨rfl, rfl⟩
        go_wp2
        go_round
        case rel =>
          refine ⟨j + 1, by omega, by go_num, fun i hi => ?_⟩
          by_cases e : i = j
          · subst e; exact fun h => h HE.out
          · exact hN.out i (by omega)
        case measure => simp [intOf]; omega
      · have HE := Lib.hid he
        clear he
        go_wp2_with fail
        refine (clo_yes _ _ _ _ _ _ _ _ hcn hc HX.out HE.out).mono ?_
        rintro e w' ⟨rfl, rfl⟩
        go_wp2
        go_ret
        exact ⟨.inr ⟨j, hlt, rfl, HE.out, hN.out⟩, rfl⟩
    · obtain rfl : j = m.length := by omega
      go_wp2
      go_ret
      exact ⟨.inl ⟨rfl, hN.out⟩, rfl⟩

theorem idxc_some (va : Option Addr) (vc n col j l : Nat) (cp : Addr) (m : List (List Nat)) (w : World) (hG : GridAt w va vc m) (hl : ∀ i, i < m.length → (m.getD i []).length = n) (hcn : col < n) (hc : w.cell? cp = some (.int .i64 (col : Int)))
    (hm : m.length = l) (hj : j < l) (hp : Mt.en m j col ≠ 0) (hq : ∀ i, i < j → Mt.en m i col = 0) :
    Calls Try.prog 82 #[.slice va l vc, .func (.func 83) #[] #[.pointer (some cp)]] w fun e w' => e = .returned (.int .i64 (j : Int)) ∧ w = w' := by
  subst hm
  refine (idx_clo va vc n col cp m w hG hl hcn hc).mono ?_
  rintro e w' ⟨⟨_, h⟩ | ⟨k, hk, rfl, hpk, hqk⟩, rfl⟩
  · exact absurd hp (h j hj)
  · have : k = j := by
      rcases Nat.lt_trichotomy k j with h | h | h
      · exact absurd (hq k h) hpk
      · exact h
      · exact absurd hp (hqk j h)
    subst this
    exact ⟨rfl, rfl⟩

theorem idxc_none (va : Option Addr) (vc n col l : Nat) (cp : Addr) (m : List (List Nat)) (w : World) (hG : GridAt w va vc m) (hl : ∀ i, i < m.length → (m.getD i []).length = n) (hcn : col < n) (hc : w.cell? cp = some (.int .i64 (col : Int)))
    (hm : m.length = l) (hq : ∀ i, i < l → Mt.en m i col = 0) :
    Calls Try.prog 82 #[.slice va l vc, .func (.func 83) #[] #[.pointer (some cp)]] w fun e w' => e = .returned (.int .i64 (-1)) ∧ w = w' := by
  subst hm
  refine (idx_clo va vc n col cp m w hG hl hcn hc).mono ?_
  rintro e w' ⟨⟨rfl, _⟩ | ⟨k, hk, rfl, hpk, _⟩, rfl⟩
  · exact ⟨rfl, rfl⟩
  · exact absurd (hq k hk) hpk

/-- One row of the left side has been written. -/
theorem Red.wroteL {w w' : World} {R tb lo mid n GL CL GR CR : Nat} {L M : List (List Nat)} (h : Red w R tb lo mid n GL CL GR CR L M) {gl cl gr cr : Nat → Nat} (hL : OwnM w lo GL CL gl cl L) (hM : OwnM w mid GR CR gr cr M)
    (hgl : ∀ i, i < n → gl i < mid) (hgr : ∀ i, i < n → gr i < R) (i : Nat) (hi : i < n) (r : List Nat) (hC : Chg [gl i] w w') (hO : OwnB w' lo (gl i) (cl i) r) (hl : r.length = n) :
    Red w' R tb lo mid n GL CL GR CR (L.set i r) M ∧ Mid lo R w w' := by
  have hi' : i < L.length := by rw [h.sL.len]; exact hi
  have l1 := (hL.row i hi').lt.1
  have l3 := hgl i hi
  have hmR := h.mR
  have hMid : Mid lo R w w' := hC.mid (by simp; omega)
  refine ⟨⟨h.tlt, hMid.cell h.c0 (.inr (Nat.le_refl _)), hMid.cell h.c1 (.inr (Nat.le_refl _)), hMid.cell h.c2 (.inr (Nat.le_refl _)), hMid.tab h.tab h.tlt, h.hGL, h.hGR, h.lm, h.mR, h.sL.set i r hl hO.byte, h.sM,
    ⟨gl, cl, gr, cr, hL.setRow i hi' r hC hO (by rw [hl, h.sL.row i hi]), hM.chg hC (by have := hM.lt.1; simp; omega) (fun k hk => by have := (hM.row k hk).lt.1; simp; omega), hgl, hgr⟩⟩, hMid⟩

/-- One row of the right side has been written. -/
theorem Red.wroteR {w w' : World} {R tb lo mid n GL CL GR CR : Nat} {L M : List (List Nat)} (h : Red w R tb lo mid n GL CL GR CR L M) {gl cl gr cr : Nat → Nat} (hL : OwnM w lo GL CL gl cl L) (hM : OwnM w mid GR CR gr cr M)
    (hgl : ∀ i, i < n → gl i < mid) (hgr : ∀ i, i < n → gr i < R) (i : Nat) (hi : i < n) (r : List Nat) (hC : Chg [gr i] w w') (hO : OwnB w' mid (gr i) (cr i) r) (hl : r.length = n) :
    Red w' R tb lo mid n GL CL GR CR L (M.set i r) ∧ Mid lo R w w' := by
  have hi' : i < M.length := by rw [h.sM.len]; exact hi
  have l1 := (hM.row i hi').lt.1
  have l3 := hgr i hi
  have hlm := h.lm
  have hGL := h.hGL
  have hMid : Mid lo R w w' := hC.mid (by simp; omega)
  refine ⟨⟨h.tlt, hMid.cell h.c0 (.inr (Nat.le_refl _)), hMid.cell h.c1 (.inr (Nat.le_refl _)), hMid.cell h.c2 (.inr (Nat.le_refl _)), hMid.tab h.tab h.tlt, h.hGL, h.hGR, h.lm, h.mR, h.sL, h.sM.set i r hl hO.byte,
    ⟨gl, cl, gr, cr, hL.chg hC (by simp; omega) (fun k hk => by rw [h.sL.len] at hk; have := hgl k hk; simp; omega), hM.setRow i hi' r hC hO (by rw [hl, h.sM.row i hi]), hgl, hgr⟩⟩, hMid⟩

/-- Both sides behind what turns no block of theirs. -/
theorem Red.below {w w' : World} {R tb lo mid n GL CL GR CR : Nat} {L M : List (List Nat)} (h : Red w R tb lo mid n GL CL GR CR L M) (hb : Below w.heap.size w w') : Red w' R tb lo mid n GL CL GR CR L M := by
  obtain ⟨gl, cl, gr, cr, hL, hM, hgl, hgr⟩ := h.own
  exact ⟨h.tlt, cell_later hb h.c0, cell_later hb h.c1, cell_later hb h.c2, h.tab.below hb (World.block_lt_of_cell? w _ (h.tab.pow 0 (by omega))), h.hGL, h.hGR, h.lm, h.mR, h.sL, h.sM, ⟨gl, cl, gr, cr, hL.below hb, hM.below hb, hgl, hgr⟩⟩

end Go.Proofs.Ytjefjlalebpodaa
