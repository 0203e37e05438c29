/-
  What mat.Inverse does.
-/
import Derived.Test.YtnhledngeicekaaWalksM12
namespace Go.Proofs.Ytnhledngeicekaa
open Go.RowKit

/-- An inverse and true; or nil and false, and then m x = 0 for some x that is not zero. -/
def InvPost (w : World) (n : Nat) (m : List (List Nat)) (e : Ending) (w' : World) : Prop :=
  Below w.heap.size w w' ∧
  ((∃ G C g c X, e = .returned (.tuple #[.slice (some ⟨G, 0, none⟩) n C, .bool true]) ∧ OwnM w' w.heap.size G C g c X ∧ Mt.Sq n X ∧ Mt.InvOf n m X) ∨
   (e = .returned (.tuple #[.slice none 0 0, .bool false]) ∧ Mt.Sing n m))

theorem GridAt.by {w : World} {a : Option Addr} {cap : Nat} {m : List (List Nat)} (h : GridAt w a cap m) : Mt.By m := by
  intro i
  by_cases hi : i < m.length
  · obtain ⟨_, _, _, _, _, _, hs⟩ := h.at i hi
    exact hs.byte
  · rw [List.getD_eq_getElem?_getD, List.getElem?_eq_none (by omega)]; exact bytes_nil

/-- The first that is no zero, or none. -/
theorem first_of (p : Nat → Nat) (n : Nat) : (∃ j, j < n ∧ p j ≠ 0 ∧ ∀ i, i < j → p i = 0) ∨ ∀ i, i < n → p i = 0 := by
  induction n with
  | zero => exact .inr fun i hi => by omega
  | succ n ih =>
    rcases ih with ⟨j, hj, h1, h2⟩ | h
    · exact .inl ⟨j, by omega, h1, h2⟩
    · by_cases e : p n = 0
      · exact .inr fun i hi => by
          by_cases ei : i = n
          · rw [ei]; exact e
          · exact h i (by omega)
      · exact .inl ⟨n, by omega, e, h⟩

set_option maxRecDepth 100000 in
set_option maxHeartbeats 4000000 in
theorem inverse_any (va : Option Addr) (vc n : Nat) (m : List (List Nat)) (w : World) (hG : GridAt w va vc m) (sm : Sd m) (hl : m.length = n) (hsq : (m.getD 0 []).length = n) (hn : n ≤ 1000000) :
    Calls Try.prog 33 #[.slice va n vc] w (InvPost w n m) := by
  have HS := Lib.hid (fun w => fun h => sound_yes va vc m w h sm)
  rw [hl] at HS
  obtain ⟨b1, off1, ra1, rc1, e, hca, _⟩ := hG.at 0 sm.1
  rw [Nat.add_zero, hsq] at hca
  subst e
  have HG := Lib.hid hG
  have HRA : Hid (∀ i, i < n → (m.getD i []).length = n) := fun i hi => by rw [sm.2.2 i (by rw [hl]; exact hi), hsq]
  have hn0 : 0 < n := by rw [← hl]; exact sm.1
  have HL := Lib.hid hl
  have HSQ : Hid (Mt.Sq n m) := ⟨hl, HRA.out, hG.by⟩
  have HCA := Lib.hid hca
  have HCP := Lib.hid (copied_any (some ⟨b1, off1, none⟩) vc n m)
  rw [hl] at HCP
  clear hG hca sm hl hsq
  have t0 : ((n : Int) != (n : Int)) = false := by simp
  have t1 : (0 : Int) < (n : Int) := by omega
  go_enter Try.func33, Try.ntmps33
  go_wp2_with fail
  refine (HS.out _ HG.out).mono ?_
  rintro e w1 ⟨rfl, hb1⟩
  have hca := cell_later hb1 HCA.out
  go_wp2_with fail
  refine (made_ex _).mono ?_
  rintro e w2 ⟨rfl, cs, hcs, rfl⟩
  have ht := hcs.isTab w1 77
  have hb2 := hb1.alloc hb1.size (.cells cs 77)
  have hs2 : w1.heap.size < (w1.alloc (.cells cs 77)).heap.size := by simp
  have hz1 := hb1.size
  clear hcs hca hb1 t0 t1
  generalize w1.alloc (.cells cs 77) = w2 at *
  generalize w1.heap.size = tb at *
  have HT2 := Lib.hid ht
  have HB2 := Lib.hid hb2
  clear ht hb2
  go_wp2_with fail
  refine (HCP.out _ (HG.out.below HB2.out) hn0 hn (by omega) HRA.out).mono ?_
  rintro e w3 ⟨_, GL, CL, gl, cl, rfl, hL3, hb3⟩
  have hz2 := HB2.out.size
  have HT3 := Lib.hid (HT2.out.below hb3 hs2)
  have HB3 := Lib.hid (HB2.out.trans (hb3.mono hz2))
  have HL3 := Lib.hid hL3
  have hz3 := hb3.size
  clear hL3 hb3
  go_wp2_with fail
  refine (identity_any n _ hn).mono ?_
  rintro e w4 ⟨_, GR, CR, gr, cr, rfl, hM4, hb4⟩
  have hz4 := hb4.size
  have HL4 := Lib.hid (HL3.out.below hb4)
  have HT4 := Lib.hid (HT3.out.below hb4 (by omega))
  have HB4 := Lib.hid (HB3.out.trans (hb4.mono (by omega)))
  have HM4 := Lib.hid hM4
  clear hM4 hb4
  have HR5 : Hid (Red (w4.alloc (.cells #[.pointer (some ⟨tb, 0, none⟩), .slice (some ⟨GL, 0, none⟩) n CL, .slice (some ⟨GR, 0, none⟩) n CR] 70)) w4.heap.size tb w2.heap.size w3.heap.size n GL CL GR CR m (ident n)) := by
    have hbn := below_one w4 (.cells #[.pointer (some ⟨tb, 0, none⟩), .slice (some ⟨GL, 0, none⟩) n CL, .slice (some ⟨GR, 0, none⟩) n CR] 70)
    refine ⟨hs2, by rw [World.cell?_alloc_at (hn := rfl)]; rfl, by rw [World.cell?_alloc_at (hn := rfl)]; rfl, by rw [World.cell?_alloc_at (hn := rfl)]; rfl, HT4.out.below hbn (by omega), HL3.out.lt.2, HM4.out.lt.2, hz3, hz4, HSQ.out,
      ⟨idK_len n n, fun i hi => idK_row n n i hi, HM4.out.by⟩, ⟨gl, cl, gr, cr, HL4.out.below hbn, HM4.out.below hbn, fun i hi => (HL3.out.row i (by rw [HL.out]; exact hi)).lt.2, fun i hi => (HM4.out.row i (by rw [ident, idK_len]; exact hi)).lt.2⟩⟩
  have HB5 := Lib.hid (HB4.out.alloc HB4.out.size (.cells #[.pointer (some ⟨tb, 0, none⟩), .slice (some ⟨GL, 0, none⟩) n CL, .slice (some ⟨GR, 0, none⟩) n CR] 70))
  have hlo : w.heap.size ≤ w2.heap.size := hz2
  have hmd : w.heap.size ≤ w3.heap.size := by omega
  have HID : Hid (∀ i, i < n → ∀ k, k < n → Mt.en (ident n) i k = if i = k then 1 else 0) := fun i hi k hk => by
    have := idK_get n n i k hi hk
    by_cases e : i = k
    · rw [if_pos ⟨e, hi⟩] at this; rw [if_pos e]; exact this
    · rw [if_neg (fun h => e h.1)] at this; rw [if_neg e]; exact this
  clear HL3 HL4 HM4 HT4 HT3 HT2 HB4 HB3 HB2 HCP HSQ HRA HS HCA
  go_wp2
  go_loopw [5, 27] (fun _ i ws => ∃ (col : Nat) (L M : List (List Nat)), col ≤ n ∧ i = .int .i64 col ∧ Hid (Red ws w4.heap.size tb w2.heap.size w3.heap.size n GL CL GR CR L M) ∧ Hid (Mt.Eqv n m (ident n) L M) ∧ Hid (Mt.UnitTo n col L) ∧ Hid (Below w.heap.size w ws)) (fun _ i _ => n - (intOf i).toNat)
  case atStart => exact ⟨0, m, ident n, Nat.zero_le _, rfl, HR5, Mt.Eqv.refl _ _ _, fun j hj => by omega, HB5⟩
  case round =>
    obtain ⟨col, L, M, hc, rfl, hR, hE, hU, hB⟩ := hrel
    by_cases hlt : col < n
    · rcases first_of (fun j => Mt.en L (col + j) col) (n - col) with ⟨j, hj, h1, h2⟩ | hnone
      · have HC := Lib.hid (clear_yes w4.heap.size tb w2.heap.size w3.heap.size n GL CL GR CR col j L M wr hR.out (by omega) h1 h2)
        have HST := Lib.hid (Mt.clr_step n col (col + j) L M hR.out.sL hR.out.sM hlt (by omega) (by omega) hU.out h1)
        clear h1 h2
        go_wp2_with fail
        refine HC.out.mono ?_
        rintro e w5 ⟨rfl, hR5, hM5⟩
        go_wp2
        go_round
        case rel => exact ⟨col + 1, _, _, by omega, by go_num, hR5, hE.out.trans HST.out.2.2.1, HST.out.2.2.2, hM5.below hB.out hB.out.size hlo⟩
        case measure => simp [intOf]; omega
      · have HC := Lib.hid (clear_no w4.heap.size tb w2.heap.size w3.heap.size n GL CL GR CR col L M wr hR.out hlt (fun i h1 h2 => by have := hnone (i - col) (by omega); rw [show col + (i - col) = i by omega] at this; exact this))
        have HSG := Lib.hid (Mt.sing_of n col m (ident n) L M hlt hE.out hU.out hR.out.sL.byte (fun i h1 h2 => by have := hnone (i - col) (by omega); rw [show col + (i - col) = i by omega] at this; exact this))
        clear hnone
        go_wp2_with fail
        refine HC.out.mono ?_
        rintro e w5 ⟨rfl, hb5⟩
        go_wp2
        go_ret2
        exact ⟨hB.out.trans (hb5.mono hB.out.size), .inr ⟨rfl, HSG.out⟩⟩
    · obtain rfl : col = n := by omega
      have c2 := hR.out.c2
      obtain ⟨gl', cl', gr', cr', _, hM', _, _⟩ := hR.out.own
      have HMM := Lib.hid (hM'.base hmd)
      clear hM'
      go_wp2
      go_ret2
      exact ⟨hB.out, .inl ⟨_, _, _, _, M, rfl, HMM.out, hR.out.sM, Mt.inv_of _ m (ident _) L M hE.out hU.out HID.out⟩⟩

set_option maxRecDepth 100000 in
set_option maxHeartbeats 4000000 in
theorem inverse_no (va : Option Addr) (vc : Nat) (m : List (List Nat)) (w : World) (hG : GridAt w va vc m) (h : ¬ (Sd m ∧ m.length = (m.getD 0 []).length)) :
    Calls Try.prog 33 #[.slice va m.length vc] w fun e w' => e = .returned (.tuple #[.slice none 0 0, .bool false]) ∧ Below w.heap.size w w' := by
  have HG := Lib.hid hG
  by_cases sm : Sd m
  · have HS := Lib.hid (fun w => fun h => sound_yes va vc m w h sm)
    obtain ⟨b1, off1, ra1, rc1, e, hca, _⟩ := hG.at 0 sm.1
    rw [Nat.add_zero] at hca
    subst e
    have HF : Hid (m.length ≠ (m.getD 0 []).length) := fun e => h ⟨sm, e⟩
    have hm0 := sm.1
    clear h sm hG
    generalize (m.getD 0 []).length = l at *
    have t0 : ((m.length : Int) != (l : Int)) = true := by have := HF.out; simp; omega
    have t1 : (0 : Int) < (m.length : Int) := by omega
    have HCA := Lib.hid hca
    clear hca
    go_enter Try.func33, Try.ntmps33
    go_wp2_with fail
    refine (HS.out _ HG.out).mono ?_
    rintro e w1 ⟨rfl, hb1⟩
    have hca := cell_later hb1 HCA.out
    go_wp2
    go_ret2
    exact ⟨rfl, hb1⟩
  · have HS := Lib.hid (fun w => fun h => sound_no va vc m w h sm)
    clear h sm hG
    go_enter Try.func33, Try.ntmps33
    go_wp2_with fail
    refine (HS.out _ HG.out).mono ?_
    rintro e w1 ⟨rfl, hb1⟩
    go_wp2
    go_ret2
    exact ⟨rfl, hb1⟩

end Go.Proofs.Ytnhledngeicekaa
