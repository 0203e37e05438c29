/-
  Layer 3: the laws' fixed fact 'awake': it is true, and nothing that was there is changed.
-/
import Derived.Test.YtnhledngeicekaaWalksS9
namespace Go.Proofs.Ytnhledngeicekaa
open Go.RowKit

/-- The two shards of the fixed fact. -/
def sh2 : List (List Nat) := [[1, 2], [3, 4]]
theorem by_sh2 : Mt.By sh2 := by
  intro i
  match i with
  | 0 => intro c hc; simp [sh2] at hc; omega
  | 1 => intro c hc; simp [sh2] at hc; omega
  | i + 2 => intro c hc; simp [sh2] at hc
theorem ev_sh2 : Ev sh2 := by
  intro i hi
  match i, hi with
  | 0, _ => rfl
  | 1, _ => rfl
  | i + 2, hi => simp [sh2] at hi; omega
theorem frag_sh2_len (p : Nat) : (frag sh2 p).length = 2 := by rw [frag_len]; rfl
theorem frag_sh2_0 : frag sh2 0 = [1, 2] := frag_first sh2 0 (by decide) (by decide) rfl by_sh2
theorem strB_12 : strB [1, 2] = ⟨#[1, 2]⟩ := rfl

theorem frs_two (w : World) (p q : Int) (a1 a2 : Option Addr) (c1 c2 : Nat) (d1 d2 : List Nat) (h1 : SeenAt w a1 c1 d1) (h2 : SeenAt w a2 c2 d2) (hp : (Lit.int .i64 p).wf = true) (hq : (Lit.int .i64 q).wf = true) :
    FrsAt (w.alloc (.cells #[.int .i64 p, .slice a1 d1.length c1, .int .i64 q, .slice a2 d2.length c2] 38)) (some ⟨w.heap.size, 0, none⟩) 2 [⟨p, a1, c1, d1⟩, ⟨q, a2, c2, d2⟩] where
  le := by simp
  max := by unfold maxLen; omega
  el i hi := by
    match i, hi with
    | 0, _ => exact ⟨w.heap.size, 0, rfl, by rw [World.cell?_alloc_at (hn := rfl)]; rfl, by rw [World.cell?_alloc_at (hn := rfl)]; rfl, h1.below (below_one _ _)⟩
    | 1, _ => exact ⟨w.heap.size, 0, rfl, by rw [World.cell?_alloc_at (hn := rfl)]; rfl, by rw [World.cell?_alloc_at (hn := rfl)]; rfl, h2.below (below_one _ _)⟩
    | i + 2, hi => simp at hi; omega
  wf f hf := by
    simp at hf
    rcases hf with rfl | rfl
    · exact hp
    · exact hq

theorem firsts_two (f g : Fr) (h : f.pos ≠ g.pos) : firsts [f, g] = [f, g] := by
  have : ¬ f.pos = g.pos := h
  have h2 : ¬ g.pos = f.pos := fun e => h e.symm
  simp [firsts, fst1, h2]

/-- The fragments of the fixed fact, at 3 and 2. -/
theorem awake_back (a1 a2 : Option Addr) (c1 c2 : Nat) : let fs := [(⟨3, a1, c1, frag sh2 3⟩ : Fr), ⟨2, a2, c2, frag sh2 2⟩]
    Good 4 fs ∧ (firsts fs).length = 2 ∧ ∀ S, Mt.By (dats fs) → Behind 2 4 ((firsts fs).take 2) S → S = sh2 := by
  have hf : firsts [(⟨3, a1, c1, frag sh2 3⟩ : Fr), ⟨2, a2, c2, frag sh2 2⟩] = [⟨3, a1, c1, frag sh2 3⟩, ⟨2, a2, c2, frag sh2 2⟩] := firsts_two _ _ (by show (3 : Int) ≠ 2; decide)
  have hg : Good 4 [(⟨3, a1, c1, frag sh2 3⟩ : Fr), ⟨2, a2, c2, frag sh2 2⟩] := by
    intro i hi
    match i, hi with
    | 0, _ => exact ⟨by show (0 : Int) ≤ 3 ∧ (3 : Int) < 4; decide, rfl⟩
    | 1, _ => exact ⟨by show (0 : Int) ≤ 2 ∧ (2 : Int) < 4; decide, (frag_sh2_len 2).trans (frag_sh2_len 3).symm⟩
    | i + 2, hi => simp at hi; omega
  refine ⟨hg, by rw [hf]; rfl, fun S bd hB => ?_⟩
  have hc := chosen_of (k := 2) hg (by rw [hf]; simp)
  rw [hf] at hB hc
  refine hB.only hc (by decide) bd rfl (fun i hi => ?_) by_sh2 (fun i hi => ?_)
  · show _ = (frag sh2 3).length
    rw [frag_sh2_len]
    match i, hi with
    | 0, _ => rfl
    | 1, _ => rfl
  · match i, hi with
    | 0, _ => rfl
    | 1, _ => rfl

set_option maxRecDepth 100000 in
set_option maxHeartbeats 4000000 in
theorem awake3 (w : World) :
    Calls Try.prog 12 #[] w fun e w' => e = .returned (.bool true) ∧ Below w.heap.size w w' := by
  go_enter Try.func12, Try.ntmps12
  go_wp2_with fail
  refine (enc_any 2 _ _ 2 4 sh2 _ (grid_two w 1 2 3 4 (by omega) (by omega) (by omega) (by omega)) rfl (by omega) rfl (by omega) (by decide)).mono ?_
  rintro e w1 (⟨hne, _⟩ | ⟨_, hl, a, cap, rfl, hA, hb⟩)
  · exact absurd ev_sh2 hne
  have HB1 := Lib.hid ((below_3 w _ _ _).trans (hb.mono (below_3 w _ _ _).size))
  have HA := Lib.hid hA
  have HL := Lib.hid hl
  clear hA hb hl
  go_wp2_with fail
  refine (at_any _ _ 4 3 _ _ HA.out HL.out (by omega)).mono ?_
  rintro e w' ⟨⟨r3, c3, rfl, hS3⟩, rfl⟩
  rw [frags_row sh2 4 3 (by omega)] at hS3 ⊢
  have HS3 := Lib.hid hS3
  clear hS3
  rw [frag_sh2_len]
  go_wp2_with fail
  refine (at_any _ _ 4 2 _ _ HA.out HL.out (by omega)).mono ?_
  rintro e w' ⟨⟨r2, c2, rfl, hS2⟩, rfl⟩
  rw [frags_row sh2 4 2 (by omega)] at hS2 ⊢
  have HS2 := Lib.hid hS2
  clear hS2
  rw [frag_sh2_len]
  obtain ⟨hgood, hfl, hback⟩ := awake_back r3 r2 c3 c2
  have hfrs := frs_two w1 3 2 r3 r2 c3 c2 (frag sh2 3) (frag sh2 2) HS3.out HS2.out rfl rfl
  have HBD : Hid (Mt.By (dats [(⟨3, r3, c3, frag sh2 3⟩ : Fr), ⟨2, r2, c2, frag sh2 2⟩])) := by
    intro i
    match i with
    | 0 => exact HS3.out.byte
    | 1 => exact HS2.out.byte
    | i + 2 => exact bytes_nil
  have HGO := Lib.hid hgood
  have HFL := Lib.hid hfl
  have HBK := Lib.hid hback
  rw [frag_sh2_len, frag_sh2_len] at hfrs
  have HFR := Lib.hid hfrs
  clear hgood hfl hback hfrs
  go_wp2_with fail
  refine (dec_any _ _ 2 2 2 4 _ _ HFR.out rfl (by omega) (by omega) rfl (by omega) (by show (frag sh2 3).length ≤ _; rw [frag_sh2_len]; omega)).mono ?_
  rintro e w2 ⟨hb2, ⟨hng, _⟩ | ⟨_, hfew, _⟩ | ⟨_, _, S, aS, cS, rfl, hS, hSl, hBe⟩⟩
  · exact absurd HGO.out hng
  · rw [HFL.out] at hfew; omega
  obtain rfl := HBK.out S HBD.out hBe
  have HB2 := Lib.hid (HB1.out.trans (((below_one w1 _).trans (hb2.mono (below_one w1 _).size)).mono HB1.out.size))
  have HA2 := Lib.hid (HA.out.below ((below_one w1 _).trans (hb2.mono (below_one w1 _).size)))
  have HS := Lib.hid hS
  clear hb2 hS hSl hBe
  go_wp2_with fail
  refine (code_no 250 6 _ rfl (by rintro ⟨_, _, h⟩; omega)).mono ?_
  rintro e w' ⟨rfl, rfl⟩
  obtain ⟨b0, off0, ra, rc, e, hc0, hS0⟩ := HA2.out.at 0 (by rw [HL.out]; omega)
  subst e
  rw [Nat.add_zero, frags_row sh2 4 0 (by omega), frag_sh2_0] at hc0
  rw [frags_row sh2 4 0 (by omega), frag_sh2_0] at hS0
  have hst := str_of hS0
  rw [strB_12] at hst
  have hc0' : w2.cell? ⟨b0, off0, none⟩ = some (.slice ra 2 rc) := hc0
  have hst' : (convert 28 9 (.slice ra 2 rc)).run Try.prog w2 = .ok (.string ⟨#[1, 2]⟩) w2 := hst
  clear hS0 hst hc0
  go_wp2_with fail
  refine (same_at _ _ _ _ 2 2 sh2 sh2 _ (HS.out.below (below_3 w2 _ _ _)) (grid_two w2 1 2 3 4 (by omega) (by omega) (by omega) (by omega)) rfl rfl rfl).mono ?_
  rintro e w3 ⟨rfl, hb3⟩
  have HB3 := Lib.hid (HB2.out.trans (((below_3 w2 _ _ _).trans (hb3.mono (below_3 w2 _ _ _).size)).mono HB2.out.size))
  go_wp2
  go_ret
  exact ⟨rfl, HB3.out⟩

end Go.Proofs.Ytnhledngeicekaa
