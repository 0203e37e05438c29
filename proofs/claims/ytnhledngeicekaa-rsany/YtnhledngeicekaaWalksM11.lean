/-
  What the search for a pivot does; rows written on one side.
-/
import Derived.Test.YtnhledngeicekaaWalksM10
namespace Go.Proofs.Ytnhledngeicekaa
open Go.RowKit

theorem GridAt.drop {w : World} {b off cap : Nat} {m : List (List Nat)} (h : GridAt w (some ⟨b, off, none⟩) cap m) (k : Nat) (hk : k ≤ m.length) : GridAt w (some ⟨b, off + k, none⟩) (cap - k) (m.drop k) :=
  ⟨by have := h.le; simp; omega, by have := h.max; omega, fun i hi => by
    have hi' : k + i < m.length := by rw [List.length_drop] at hi; omega
    obtain ⟨b', off', r, e, hc, hs⟩ := h.row (k + i) hi'
    cases e
    refine ⟨b, off + k, r, rfl, by rw [Nat.add_assoc]; exact hc, ?_⟩
    rw [List.getD_eq_getElem?_getD, List.getElem?_drop, ← List.getD_eq_getElem?_getD]
    exact hs⟩

set_option maxHeartbeats 1000000 in
theorem clo_no (b off n rc col : Nat) (cp : Addr) (w : World) (hcn : col < n) (hc : w.cell? cp = some (.int .i64 (col : Int))) (hx : w.cell? ⟨b, off + col, none⟩ = some (.int .u8 0)) :
    Calls Try.prog 50 #[.slice (some ⟨b, off, none⟩) n rc, .pointer (some cp)] w fun e w' => e = .returned (.bool false) ∧ w = w' := by
  have i0 : (0 : Int) ≤ (col : Int) := by omega
  have i1 : (col : Int) < (n : Int) := by omega
  go_enter Try.func50, Try.ntmps50
  go_wp2
  go_ret
  exact ⟨rfl, rfl⟩

set_option maxHeartbeats 1000000 in
theorem clo_yes (b off n rc col x : Nat) (cp : Addr) (w : World) (hcn : col < n) (hc : w.cell? cp = some (.int .i64 (col : Int))) (hx : w.cell? ⟨b, off + col, none⟩ = some (.int .u8 (x : Int))) (h0 : x ≠ 0) :
    Calls Try.prog 50 #[.slice (some ⟨b, off, none⟩) n rc, .pointer (some cp)] w fun e w' => e = .returned (.bool true) ∧ w = w' := by
  have i0 : (0 : Int) ≤ (col : Int) := by omega
  have i1 : (col : Int) < (n : Int) := by omega
  have t : ((x : Int) != 0) = true := by simp; omega
  go_enter Try.func50, Try.ntmps50
  go_wp2
  go_ret
  exact ⟨rfl, rfl⟩

set_option maxHeartbeats 1000000 in
theorem idx_clo (va : Option Addr) (vc n col : Nat) (cp : Addr) (m : List (List Nat)) (w : World) (hG : GridAt w va vc m) (hl : ∀ i, i < m.length → (m.getD i []).length = n) (hcn : col < n) (hc : w.cell? cp = some (.int .i64 (col : Int))) :
    Calls Try.prog 49 #[.slice va m.length vc, .func (.func 50) #[] #[.pointer (some cp)]] w (IdxPost w m.length fun i => Mt.en m i col ≠ 0) := by
  have hm' : m.length ≤ maxLen := Nat.le_trans hG.le hG.max
  unfold maxLen at hm'
  have HG := Lib.hid hG
  have HL := Lib.hid hl
  clear hG hl
  go_enter Try.func49, Try.ntmps49
  go_wp2
  go_loop [5, 8] (fun _ i => ∃ j : Nat, j ≤ m.length ∧ i = .int .i64 j ∧ Hid (∀ i, i < j → ¬ Mt.en m i col ≠ 0)) (fun _ i => m.length - (intOf i).toNat)
  case atStart => exact ⟨0, Nat.zero_le _, rfl, fun i hi => by omega⟩
  case round =>
    obtain ⟨j, hj, rfl, hN⟩ := hrel
    by_cases hlt : j < m.length
    · obtain ⟨b, off, ra, rc, e, hcr, hS⟩ := HG.out.at j hlt
      subst e
      rw [HL.out j hlt] at hcr
      obtain ⟨xb, xoff, e, hx⟩ := hS.cell col (by rw [HL.out j hlt]; exact hcn)
      subst e
      have hx' : w.cell? ⟨xb, xoff + col, none⟩ = some (.int .u8 ((Mt.en m j col : Nat) : Int)) := hx
      have HX := Lib.hid hx'
      clear hx hx' hS
      by_cases he : Mt.en m j col = 0
      · have HE := Lib.hid he
        clear he
        have hxz : w.cell? ⟨xb, xoff + col, none⟩ = some (.int .u8 0) := by have := HX.out; rw [HE.out] at this; exact this
        have HZ := Lib.hid hxz
        clear hxz
        go_wp2_with fail
        refine (clo_no _ _ _ _ _ _ _ hcn hc HZ.out).mono ?_
        rintro e w' ⟨rfl, rfl⟩
        go_wp2
        go_round
        case rel =>
          refine ⟨j + 1, by omega, by go_num, fun i hi => ?_⟩
          by_cases e : i = j
          · subst e; exact fun h => h HE.out
          · exact hN.out i (by omega)
        case measure => simp [intOf]; omega
      · have HE := Lib.hid he
        clear he
        go_wp2_with fail
        refine (clo_yes _ _ _ _ _ _ _ _ hcn hc HX.out HE.out).mono ?_
        rintro e w' ⟨rfl, rfl⟩
        go_wp2
        go_ret
        exact ⟨.inr ⟨j, hlt, rfl, HE.out, hN.out⟩, rfl⟩
    · obtain rfl : j = m.length := by omega
      go_wp2
      go_ret
      exact ⟨.inl ⟨rfl, hN.out⟩, rfl⟩

theorem idxc_some (va : Option Addr) (vc n col j l : Nat) (cp : Addr) (m : List (List Nat)) (w : World) (hG : GridAt w va vc m) (hl : ∀ i, i < m.length → (m.getD i []).length = n) (hcn : col < n) (hc : w.cell? cp = some (.int .i64 (col : Int)))
    (hm : m.length = l) (hj : j < l) (hp : Mt.en m j col ≠ 0) (hq : ∀ i, i < j → Mt.en m i col = 0) :
    Calls Try.prog 49 #[.slice va l vc, .func (.func 50) #[] #[.pointer (some cp)]] w fun e w' => e = .returned (.int .i64 (j : Int)) ∧ w = w' := by
  subst hm
  refine (idx_clo va vc n col cp m w hG hl hcn hc).mono ?_
  rintro e w' ⟨⟨_, h⟩ | ⟨k, hk, rfl, hpk, hqk⟩, rfl⟩
  · exact absurd hp (h j hj)
  · have : k = j := by
      rcases Nat.lt_trichotomy k j with h | h | h
      · exact absurd (hq k h) hpk
      · exact h
      · exact absurd hp (hqk j h)
    subst this
    exact ⟨rfl, rfl⟩

theorem idxc_none (va : Option Addr) (vc n col l : Nat) (cp : Addr) (m : List (List Nat)) (w : World) (hG : GridAt w va vc m) (hl : ∀ i, i < m.length → (m.getD i []).length = n) (hcn : col < n) (hc : w.cell? cp = some (.int .i64 (col : Int)))
    (hm : m.length = l) (hq : ∀ i, i < l → Mt.en m i col = 0) :
    Calls Try.prog 49 #[.slice va l vc, .func (.func 50) #[] #[.pointer (some cp)]] w fun e w' => e = .returned (.int .i64 (-1)) ∧ w = w' := by
  subst hm
  refine (idx_clo va vc n col cp m w hG hl hcn hc).mono ?_
  rintro e w' ⟨⟨rfl, _⟩ | ⟨k, hk, rfl, hpk, _⟩, rfl⟩
  · exact ⟨rfl, rfl⟩
  · exact absurd (hq k hk) hpk

/-- One row of the left side has been written. -/
theorem Red.wroteL {w w' : World} {R tb lo mid n GL CL GR CR : Nat} {L M : List (List Nat)} (h : Red w R tb lo mid n GL CL GR CR L M) {gl cl gr cr : Nat → Nat} (hL : OwnM w lo GL CL gl cl L) (hM : OwnM w mid GR CR gr cr M)
    (hgl : ∀ i, i < n → gl i < mid) (hgr : ∀ i, i < n → gr i < R) (i : Nat) (hi : i < n) (r : List Nat) (hC : Chg [gl i] w w') (hO : OwnB w' lo (gl i) (cl i) r) (hl : r.length = n) :
    Red w' R tb lo mid n GL CL GR CR (L.set i r) M ∧ Mid lo R w w' := by
  have hi' : i < L.length := by rw [h.sL.len]; exact hi
  have l1 := (hL.row i hi').lt.1
  have l3 := hgl i hi
  have hmR := h.mR
  have hMid : Mid lo R w w' := hC.mid (by simp; omega)
  refine ⟨⟨h.tlt, hMid.cell h.c0 (.inr (Nat.le_refl _)), hMid.cell h.c1 (.inr (Nat.le_refl _)), hMid.cell h.c2 (.inr (Nat.le_refl _)), hMid.tab h.tab h.tlt, h.hGL, h.hGR, h.lm, h.mR, h.sL.set i r hl hO.byte, h.sM,
    ⟨gl, cl, gr, cr, hL.setRow i hi' r hC hO (by rw [hl, h.sL.row i hi]), hM.chg hC (by have := hM.lt.1; simp; omega) (fun k hk => by have := (hM.row k hk).lt.1; simp; omega), hgl, hgr⟩⟩, hMid⟩

/-- One row of the right side has been written. -/
theorem Red.wroteR {w w' : World} {R tb lo mid n GL CL GR CR : Nat} {L M : List (List Nat)} (h : Red w R tb lo mid n GL CL GR CR L M) {gl cl gr cr : Nat → Nat} (hL : OwnM w lo GL CL gl cl L) (hM : OwnM w mid GR CR gr cr M)
    (hgl : ∀ i, i < n → gl i < mid) (hgr : ∀ i, i < n → gr i < R) (i : Nat) (hi : i < n) (r : List Nat) (hC : Chg [gr i] w w') (hO : OwnB w' mid (gr i) (cr i) r) (hl : r.length = n) :
    Red w' R tb lo mid n GL CL GR CR L (M.set i r) ∧ Mid lo R w w' := by
  have hi' : i < M.length := by rw [h.sM.len]; exact hi
  have l1 := (hM.row i hi').lt.1
  have l3 := hgr i hi
  have hlm := h.lm
  have hGL := h.hGL
  have hMid : Mid lo R w w' := hC.mid (by simp; omega)
  refine ⟨⟨h.tlt, hMid.cell h.c0 (.inr (Nat.le_refl _)), hMid.cell h.c1 (.inr (Nat.le_refl _)), hMid.cell h.c2 (.inr (Nat.le_refl _)), hMid.tab h.tab h.tlt, h.hGL, h.hGR, h.lm, h.mR, h.sL, h.sM.set i r hl hO.byte,
    ⟨gl, cl, gr, cr, hL.chg hC (by simp; omega) (fun k hk => by rw [h.sL.len] at hk; have := hgl k hk; simp; omega), hM.setRow i hi' r hC hO (by rw [hl, h.sM.row i hi]), hgl, hgr⟩⟩, hMid⟩

/-- Both sides behind what turns no block of theirs. -/
theorem Red.below {w w' : World} {R tb lo mid n GL CL GR CR : Nat} {L M : List (List Nat)} (h : Red w R tb lo mid n GL CL GR CR L M) (hb : Below w.heap.size w w') : Red w' R tb lo mid n GL CL GR CR L M := by
  obtain ⟨gl, cl, gr, cr, hL, hM, hgl, hgr⟩ := h.own
  exact ⟨h.tlt, cell_later hb h.c0, cell_later hb h.c1, cell_later hb h.c2, h.tab.below hb (World.block_lt_of_cell? w _ (h.tab.pow 0 (by omega))), h.hGL, h.hGR, h.lm, h.mR, h.sL, h.sM, ⟨gl, cl, gr, cr, hL.below hb, hM.below hb, hgl, hgr⟩⟩

end Go.Proofs.Ytnhledngeicekaa
