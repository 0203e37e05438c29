/-
  Layer 3: rs.Code, rs.Encode, rs.Decode.
-/
import Derived.Test.YtnhledngeicekaaWalksS7
namespace Go.Proofs.Ytnhledngeicekaa
open Go.RowKit

theorem mprod_at (a b : List (List Nat)) (i : Nat) (hi : i < a.length) : (mprod a b).getD i [] = mrowK (a.getD i []) b (b.getD 0 []).length b.length := by
  unfold mprod
  rw [mmulK_row _ _ _ _ _ hi, if_pos hi]

/-- The code matrix times the shards are the fragments, empty shards too. -/
theorem code_frags' (k n : Nat) (C s : List (List Nat)) (hC : CodeOK k n C) (hk : 0 < k) (hs : s.length = k) (es : Ev s) (bs : Mt.By s) : mprod C s = frags s n := by
  by_cases h0 : (s.getD 0 []).length = 0
  · rw [mprod_nil C s h0, hC.len]
    refine getD_congr _ _ [] (by rw [frags_len, List.length_replicate]) fun i hi => ?_
    rw [List.length_replicate] at hi
    rw [getD_rep _ _ _ _ hi, frags_row s n i hi]
    have := frag_len s i
    rw [h0] at this
    exact (List.eq_nil_of_length_eq_zero this).symm
  · exact code_frags k n C s hC hs ⟨by omega, by omega, es⟩ bs

/-- A grid and no error are handed back. -/
def RetT (w : World) (n : Nat) (m : List (List Nat)) (e : Ending) (w' : World) : Prop :=
  m.length = n ∧ ∃ a cap, e = .returned (.tuple #[.slice a n cap, .int .i64 0]) ∧ GridAt w' a cap m ∧ Below w.heap.size w w'

theorem code_no (k m : Int) (w : World) (hk : (Lit.int .i64 k).wf = true) (h : ¬ May k m) :
    Calls Try.prog 10 #[.int .i64 k, .int .i64 m] w fun e w' => e = .returned (.tuple #[.slice none 0 0, .int .i64 3]) ∧ w = w' := by
  have HN := Lib.hid (fun w => allowed_no k m w hk h)
  clear hk h
  go_enter Try.func10, Try.ntmps10
  go_wp2_with fail
  refine (HN.out _).mono ?_
  rintro e w' ⟨rfl, rfl⟩
  go_wp2
  go_ret2
  exact ⟨rfl, rfl⟩

theorem code_yes (k m n : Nat) (w : World) (hk : 1 ≤ k) (hn : k + m = n) (hn2 : n ≤ 255) :
    Calls Try.prog 10 #[.int .i64 (k : Int), .int .i64 (m : Int)] w fun e w' => ∃ C, CodeOK k n C ∧ RetT w n C e w' := by
  have HAY := Lib.hid (fun w => allowed_yes (k : Int) (m : Int) w ⟨by omega, by omega, by omega⟩)
  have HCM := Lib.hid (fun w => codeMatrix_any k m n w hk hn hn2)
  clear hn
  go_enter Try.func10, Try.ntmps10
  go_wp2_with fail
  refine (HAY.out _).mono ?_
  rintro e w' ⟨rfl, rfl⟩
  go_wp2_with fail
  refine (HCM.out _).mono ?_
  rintro e w1 ⟨C, hC, hl, G, Cc, g, c, rfl, hO, hb⟩
  have HC := Lib.hid hC
  have HL := Lib.hid hl
  have HO := Lib.hid hO.gridAt
  clear hC hl hO
  go_wp2
  go_ret2
  exact ⟨C, HC.out, HL.out, _, _, rfl, HO.out, hb⟩

theorem enc_no (m : Int) (va : Option Addr) (vc l : Nat) (w : World) (hl : l ≤ 1000000) (h : ¬ May l m) :
    Calls Try.prog 15 #[.int .i64 m, .slice va l vc] w fun e w' => e = .returned (.tuple #[.slice none 0 0, .int .i64 3]) ∧ w = w' := by
  have HN := Lib.hid (fun w => allowed_no (l : Int) m w (wf_nat l (by omega)) h)
  clear h
  go_enter Try.func15, Try.ntmps15
  go_wp2_with fail
  refine (HN.out _).mono ?_
  rintro e w' ⟨rfl, rfl⟩
  go_wp2
  go_ret2
  exact ⟨rfl, rfl⟩

/-- What Encode hands back where the code is one. -/
def EncPost (w : World) (n : Nat) (s : List (List Nat)) (e : Ending) (w' : World) : Prop :=
  (¬ Ev s ∧ e = .returned (.tuple #[.slice none 0 0, .int .i64 2]) ∧ Below w.heap.size w w') ∨ (Ev s ∧ RetT w n (frags s n) e w')

set_option maxRecDepth 100000 in
set_option maxHeartbeats 2000000 in
theorem enc_any (m : Nat) (va : Option Addr) (vc l n : Nat) (s : List (List Nat)) (w : World) (hG : GridAt w va vc s) (hl : s.length = l) (hl1 : 1 ≤ l) (hn : l + m = n) (hn2 : n ≤ 255) (hw : (s.getD 0 []).length ≤ 1000000000) :
    Calls Try.prog 15 #[.int .i64 (m : Int), .slice va l vc] w (EncPost w n s) := by
  have HAY := Lib.hid (fun w => allowed_yes (l : Int) (m : Int) w ⟨by omega, by omega, by omega⟩)
  have HCM := Lib.hid (fun w => codeMatrix_any l m n w hl1 hn hn2)
  obtain ⟨b0, off, ra0, rc0, e, hcr, hS0⟩ := hG.at 0 (by omega)
  rw [Nat.add_zero] at hcr
  subst e
  have HG := Lib.hid hG
  have HL := Lib.hid hl
  have HW := Lib.hid hw
  have hln : l ≤ n := by omega
  clear hG hl hn hw hS0
  generalize hk0 : (s.getD 0 []).length = k0 at *
  have HK0 := Lib.hid hk0
  clear hk0
  have l0 : (0 : Int) < (l : Int) := by omega
  go_enter Try.func15, Try.ntmps15
  go_wp2_with fail
  refine (HAY.out _).mono ?_
  rintro e w' ⟨rfl, rfl⟩
  go_wp2
  go_loop [8, 17] (fun _ i => ∃ j : Nat, j ≤ l ∧ i = .int .i64 j ∧ Hid (∀ q, q < j → (s.getD q []).length = k0)) (fun _ i => l - (intOf i).toNat)
  case atStart => exact ⟨0, Nat.zero_le _, rfl, fun q hq => by omega⟩
  case round =>
    obtain ⟨j, hj, rfl, hE⟩ := hrel
    by_cases hlt : j < l
    · obtain ⟨b', off', ra, rc, e, hcj, hSj⟩ := HG.out.at j (by rw [HL.out]; exact hlt)
      cases e
      have j0 : (0 : Int) ≤ (j : Int) := by omega
      have j1 : (j : Int) < (l : Int) := by omega
      by_cases he : (s.getD j []).length = k0
      · have HE : Hid (∀ q, q < j + 1 → (s.getD q []).length = k0) := fun q hq => by
          by_cases e : q = j
          · subst e; exact he
          · exact hE.out q (by omega)
        rw [he] at hcj
        clear he hSj
        have t : ((k0 : Int) != (k0 : Int)) = false := by simp
        go_wp2
        go_round
        case rel => exact ⟨j + 1, by omega, by go_num, HE⟩
        case measure => simp [intOf]; omega
      · have HNE : Hid (¬ Ev s) := fun h => he (by rw [h j (by rw [HL.out]; exact hlt)]; exact HK0.out)
        have t := ibne he
        have hx := Nat.le_trans hSj.le hSj.max
        unfold maxLen at hx
        clear he hSj
        generalize (s.getD j []).length = q at *
        go_wp2
        go_ret2
        exact .inl ⟨HNE.out, rfl, Below.refl _ _⟩
    · obtain rfl : j = l := by omega
      have HEV : Hid (Ev s) := fun i hi => by rw [HK0.out]; exact hE.out i (by rw [HL.out] at hi; exact hi)
      clear hcr
      go_wp2_with fail
      refine (HCM.out _).mono ?_
      rintro e w1 ⟨C, hC, hCl, G, Cc, g, c, rfl, hO, hb⟩
      have HC := Lib.hid hC
      have HCL := Lib.hid hCl
      have HO := Lib.hid hO.gridAt
      have HB := Lib.hid hb
      have HG1 := Lib.hid (HG.out.below hb)
      clear hC hCl hO hb
      go_wp2_with fail
      refine (combined_any _ _ _ _ n j C s _ HO.out HG1.out HCL.out HL.out (by omega) (by omega) ⟨by rw [HCL.out]; omega, by rw [HC.out.row 0 (by omega)]; omega, fun i hi => by rw [HCL.out] at hi; rw [HC.out.row i hi, HC.out.row 0 (by omega)]⟩ (HC.out.row 0 (by omega)) HEV.out (by rw [HK0.out]; exact HW.out)).mono ?_
      rintro e w2 ⟨hyl, a, cap, rfl, hY, hb2⟩
      have HY := Lib.hid hY
      have HYL := Lib.hid hyl
      have HB2 := Lib.hid (HB.out.trans (hb2.mono HB.out.size))
      clear hY hyl hb2
      rw [code_frags' j n C s HC.out (by omega) HL.out HEV.out HG.out.by] at HY HYL
      go_wp2
      go_ret2
      exact .inr ⟨HEV.out, HYL.out, _, _, rfl, HY.out, HB2.out⟩

/-- What is known of the chosen fragments. -/
structure Chosen (k n L : Nat) (ch : List Fr) : Prop where
  len : ch.length = k
  pos : ∀ f ∈ ch, 0 ≤ f.pos ∧ f.pos < (n : Int)
  nodup : (poss ch).Nodup
  dat : ∀ f ∈ ch, f.data.length = L

theorem good_mem {n : Nat} {fs : List Fr} (h : Good n fs) (f : Fr) (hf : f ∈ fs) : (0 ≤ f.pos ∧ f.pos < (n : Int)) ∧ f.data.length = (fs.getD 0 fr0).data.length := by
  obtain ⟨i, hi, e⟩ := List.mem_iff_getElem.mp hf
  have := h i hi
  have e2 : fs.getD i fr0 = f := by rw [List.getD_eq_getElem?_getD, List.getElem?_eq_getElem hi]; exact e
  rw [e2] at this
  exact this

theorem chosen_of {k n : Nat} {fs : List Fr} (h : Good n fs) (hk : k ≤ (firsts fs).length) : Chosen k n (fs.getD 0 fr0).data.length ((firsts fs).take k) where
  len := by rw [List.length_take]; omega
  pos f hf := (good_mem h f (firsts_mem fs f (List.mem_of_mem_take hf))).1
  nodup := by
    have : poss ((firsts fs).take k) = (poss (firsts fs)).take k := by simp [poss, List.map_take]
    rw [this]
    exact (firsts_nodup fs).sublist (List.take_sublist _ _)
  dat f hf := (good_mem h f (firsts_mem fs f (List.mem_of_mem_take hf))).2

theorem Chosen.row {k n L : Nat} {ch : List Fr} (h : Chosen k n L ch) (i : Nat) (hi : i < k) : ((dats ch).getD i []).length = L := by
  rw [dats_row ch i (by rw [h.len]; exact hi)]
  exact h.dat _ (getD_mem ch i fr0 (by rw [h.len]; exact hi))

theorem Chosen.ev {k n L : Nat} {ch : List Fr} (h : Chosen k n L ch) : Ev (dats ch) := by
  intro i hi
  rw [dats_len, h.len] at hi
  rw [h.row i hi, h.row 0 (by omega)]

/-- S are the shards behind the chosen fragments. -/
def Behind (k n : Nat) (ch : List Fr) (S : List (List Nat)) : Prop := ∃ C X, CodeOK k n C ∧ Mt.Sq k X ∧ Mt.InvOf k (crows C ch) X ∧ S = mprod X (dats ch)

theorem dec_no (k m : Int) (v : Value) (w : World) (hk : (Lit.int .i64 k).wf = true) (h : ¬ May k m) :
    Calls Try.prog 18 #[.int .i64 k, .int .i64 m, v] w fun e w' => e = .returned (.tuple #[.slice none 0 0, .int .i64 3]) ∧ w = w' := by
  have HN := Lib.hid (fun w => choose_no k m v w hk h)
  clear hk h
  go_enter Try.func18, Try.ntmps18
  go_wp2_with fail
  refine (HN.out _).mono ?_
  rintro e w' ⟨rfl, rfl⟩
  go_wp2
  go_ret2
  exact ⟨rfl, rfl⟩

/-- What Decode hands back where the code is one. -/
def DecPost (w : World) (k n : Nat) (fs : List Fr) (e : Ending) (w' : World) : Prop :=
  Below w.heap.size w w' ∧
  ((¬ Good n fs ∧ e = .returned (.tuple #[.slice none 0 0, .int .i64 2])) ∨
   (Good n fs ∧ (firsts fs).length < k ∧ e = .returned (.tuple #[.slice none 0 0, .int .i64 10])) ∨
   (Good n fs ∧ k ≤ (firsts fs).length ∧ ∃ S a cap, e = .returned (.tuple #[.slice a k cap, .int .i64 0]) ∧ GridAt w' a cap S ∧ S.length = k ∧ Behind k n ((firsts fs).take k) S))

set_option maxRecDepth 100000 in
set_option maxHeartbeats 2000000 in
theorem dec_any (fa : Option Addr) (fc l k m n : Nat) (fs : List Fr) (w : World) (hF : FrsAt w fa fc fs) (hl : fs.length = l) (hl2 : l ≤ 100000000) (hk : 1 ≤ k) (hn : k + m = n) (hn2 : n ≤ 255) (hw : (fs.getD 0 fr0).data.length ≤ 1000000000) :
    Calls Try.prog 18 #[.int .i64 (k : Int), .int .i64 (m : Int), .slice fa l fc] w (DecPost w k n fs) := by
  have HCH := Lib.hid (fun w => fun h => choose_any fa fc l k m n fs w h hl hl2 hk hn hn2)
  have HCM := Lib.hid (fun w => codeMatrix_any k m n w hk hn hn2)
  have HF := Lib.hid hF
  have HW := Lib.hid hw
  have hkn : k ≤ n := by omega
  clear hF hl hn hw
  go_enter Try.func18, Try.ntmps18
  go_wp2_with fail
  refine (HCH.out _ HF.out).mono ?_
  rintro e w1 ⟨hb1, ⟨hg, rfl⟩ | ⟨hg, hf, rfl⟩ | ⟨hg, hf, a, cap, rfl, hA⟩⟩
  · go_wp2
    go_ret2
    exact ⟨hb1, .inl ⟨hg, rfl⟩⟩
  · have HFW := Lib.hid hf
    clear hf
    go_wp2
    go_ret2
    exact ⟨hb1, .inr (.inl ⟨hg, HFW.out, rfl⟩)⟩
  · have HCO := Lib.hid (chosen_of hg hf)
    have HGO := Lib.hid hg
    have HFW := Lib.hid hf
    have HA := Lib.hid hA
    have HB1 := Lib.hid hb1
    clear hg hf hA hb1
    go_wp2_with fail
    refine (HCM.out _).mono ?_
    rintro e w2 ⟨C, hC, hCl, G, Cc, g, c, rfl, hO, hb⟩
    have HC := Lib.hid hC
    have HO := Lib.hid hO.gridAt
    have HB2 := Lib.hid (HB1.out.trans (hb.mono HB1.out.size))
    have HA2 := Lib.hid (HA.out.below hb)
    clear hC hCl hO hb
    go_wp2_with fail
    refine (restored_any _ _ _ _ n k C ((firsts fs).take k) _ HC.out HO.out HA2.out HCO.out.len hk hkn hn2 HCO.out.pos HCO.out.nodup HCO.out.ev (by rw [HCO.out.row 0 (by omega)]; exact HW.out)).mono ?_
    rintro e w3 ⟨X, sX, iX, hyl, aY, cY, rfl, hY, hb3⟩
    have HY := Lib.hid hY
    have HSX := Lib.hid sX
    have HIX := Lib.hid iX
    have HYL := Lib.hid hyl
    have HB3 := Lib.hid (HB2.out.trans (hb3.mono HB2.out.size))
    clear hY hyl hb3 sX iX
    go_wp2
    go_ret2
    exact ⟨HB3.out, .inr (.inr ⟨HGO.out, HFW.out, _, _, _, rfl, HY.out, HYL.out, C, X, HC.out, HSX.out, HIX.out, rfl⟩)⟩

end Go.Proofs.Ytnhledngeicekaa
