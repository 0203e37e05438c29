/-
  Layer 3: the reference's Fragment.
-/
import Derived.Test.YtnhledngeicekaaWalksS2
import Derived.Test.YtnhledngeicekaaWalksS3
namespace Go.Proofs.Ytnhledngeicekaa
open Go.RowKit

/-- The first q bytes of a fragment. -/
def fragK (s : List (List Nat)) (p q : Nat) : List Nat := (List.range q).map fun j => Mt.lagr (colv s j) p
theorem fragK_len (s : List (List Nat)) (p q : Nat) : (fragK s p q).length = q := by simp [fragK]
theorem fragK_succ (s : List (List Nat)) (p q : Nat) : fragK s p (q + 1) = fragK s p q ++ [Mt.lagr (colv s q) p] := by simp [fragK, List.range_succ]

/-- The first i bytes of a column. -/
def colK (s : List (List Nat)) (j i : Nat) : List Nat := (List.range i).map fun i => Mt.en s i j
theorem colK_len (s : List (List Nat)) (j i : Nat) : (colK s j i).length = i := by simp [colK]
theorem colK_succ (s : List (List Nat)) (j i : Nat) : colK s j (i + 1) = colK s j i ++ [Mt.en s i j] := by simp [colK, List.range_succ]

/-- What Fragment hands back. -/
def FragPost (w : World) (s : List (List Nat)) (p : Nat) (e : Ending) (w' : World) : Prop :=
  ∃ g cap, e = .returned (.slice (some ⟨g, 0, none⟩) (frag s p).length cap) ∧ SeenAt w' (some ⟨g, 0, none⟩) cap (frag s p) ∧ Below w.heap.size w w'

set_option maxRecDepth 100000 in
set_option maxHeartbeats 4000000 in
theorem fragment_any (va : Option Addr) (vc l k p : Nat) (s : List (List Nat)) (w : World) (hG : GridAt w va vc s) (hl : s.length = l) (hl1 : 1 ≤ l) (hl2 : l ≤ 256) (hr : ∀ i, i < l → (s.getD i []).length = k) (hk : k ≤ 1000000) (hp : p < 256) :
    Calls Try.prog 17 #[.slice va l vc, .int .i64 (p : Int)] w (FragPost w s p) := by
  obtain ⟨b0, off, ra0, rc0, e, hcr, _⟩ := hG.at 0 (by omega)
  rw [Nat.add_zero, hr 0 (by omega)] at hcr
  subst e
  have HG := Lib.hid hG
  have HL := Lib.hid hl
  have HR := Lib.hid hr
  have HCR := Lib.hid hcr
  have HBY := Lib.hid hG.by
  have HFE : Hid (fragK s p k = frag s p) := by show _ = _; unfold frag fragK; rw [hr 0 (by omega)]
  have l0 : (0 : Int) < (l : Int) := by omega
  clear hG hl hr hcr
  have HN0 := Lib.hid (ownB_lit w w.heap.size [] #[] rfl bytes_nil (Nat.le_refl _) (by unfold maxLen; simp))
  go_enter Try.func17, Try.ntmps17
  go_wp2
  go_loopw [5, 6, 7, 8] (fun t i _ _ ws => ∃ (q b y : Nat), q ≤ k ∧ i = .int .i64 q ∧ t = .slice (some ⟨b, 0, none⟩) q y ∧ Hid (OwnB ws w.heap.size b y (fragK s p q)) ∧ Hid (Below w.heap.size w ws)) (fun _ i _ _ _ => k - (intOf i).toNat)
  case atStart => exact ⟨0, _, _, Nat.zero_le _, rfl, rfl, HN0, below_one _ _⟩
  case round =>
    obtain ⟨q, b, y, hq, rfl, rfl, hO, hb⟩ := hrel
    have hbz := hb.out.size
    have hc0 := cell_later hb.out HCR.out
    by_cases hlt : q < k
    · generalize wr = wo at *
      have HN := Lib.hid (ownB_lit wo w.heap.size [] #[] rfl bytes_nil hbz (by unfold maxLen; simp))
      go_wp2
      go_loopw [7, 8] (fun t i ws => ∃ (c b2 y2 : Nat), c ≤ l ∧ i = .int .i64 c ∧ t = .slice (some ⟨b2, 0, none⟩) c y2 ∧ Hid (OwnB ws w.heap.size b2 y2 (colK s q c)) ∧ Hid (Below wo.heap.size wo ws) ∧ wo.heap.size ≤ b2) (fun _ i _ => l - (intOf i).toNat)
      case atStart => exact ⟨0, wo.heap.size, 0, Nat.zero_le _, rfl, rfl, HN, below_one _ _, Nat.le_refl _⟩
      case round =>
        obtain ⟨c, b2, y2, hc, rfl, rfl, hB, hbl, hbo⟩ := hrel
        have hbq := hbl.out.size
        have HCL := Lib.hid (colK_len s q c)
        by_cases hlc : c < l
        · have HS := Lib.hid (colK_succ s q c)
          obtain ⟨b', off', ra, rc, e, hcj0, hSj⟩ := HG.out.at c (by rw [HL.out]; exact hlc)
          cases e
          have hbw := hb.out.trans (hbl.out.mono hbz)
          have hcj := cell_later hbw hcj0
          rw [HR.out c hlc] at hcj
          obtain ⟨xb, xoff, e, hx0⟩ := hSj.cell q (by rw [HR.out c hlc]; exact hlt)
          subst e
          have hx1 := cell_later hbw hx0
          have hx : wr.cell? ⟨xb, xoff + q, none⟩ = some (.int .u8 ((Mt.en s c q : Nat) : Int)) := hx1
          have hxb := HBY.out.lt c q
          clear hcj0 hSj hbw hx0 hx1
          generalize Mt.en s c q = x at *
          have i1 : (0 : Int) ≤ (c : Int) := by omega
          have i2 : (c : Int) < (l : Int) := by omega
          have i3 : (0 : Int) ≤ (q : Int) := by omega
          have i4 : (q : Int) < (k : Int) := by omega
          go_wp2_with (at_builtin; refine wpList_appN rfl (.tmp 25) (.tmp 33) rfl w.heap.size b2 y2 (colK s q c) [x] c 1 HCL.out rfl rfl (hB.out.chg (gs := []) ((Chg.refl _ _).alloc _) (by simp)) _ _ rfl (seen_one _ _ _ hxb rfl) (by omega) (by simp; omega) ?_; intro b3 y3 w2 hB2 hC2 hat2)
          go_round
          case rel =>
            refine ⟨c + 1, b3, y3, by omega, by go_num, rfl, by rw [HS.out]; exact hB2, ?_, ?_⟩
            · exact hC2.below (hbl.out.alloc hbq _) (by simp; omega) (by simp; omega)
            · rcases hat2 with h | h
              · omega
              · simp at h; omega
          case measure => simp [intOf]; omega
        · obtain rfl : c = l := by omega
          have HCV : Hid (colK s q c = colv s q) := by show _ = _; unfold colK colv; rw [HL.out]
          have HS := Lib.hid (fragK_succ s p q)
          have hlg := Mt.lagr_lt (colv s q) p (colv_bytes s q HBY.out)
          have HFL := Lib.hid (fragK_len s p q)
          have HO2 := Lib.hid (hO.out.chg (gs := []) (Chg.of_below hbl.out) (by simp))
          have hlb := hO.out.lt
          clear hc0
          go_wp2_with (first | (go_at_call 13; refine (at_lagr _ _ _ _ (colv s q) _ (by rw [← HCV.out]; exact hB.out.seenAt) (by rw [colv_len, HL.out]) (by omega) (by omega)).mono ?_; rintro e w' ⟨rfl, d, rfl⟩; generalize Mt.lagr (colv s q) p = x at *) | (at_builtin; refine wpList_appN rfl (.tmp 35) (.tmp 40) rfl w.heap.size b y (fragK s p q) [x] q 1 HFL.out rfl rfl ((HO2.out.drewN d).chg (gs := []) ((Chg.refl _ _).alloc _) (by simp)) _ _ rfl (seen_one _ _ _ hlg rfl) (by omega) (by simp [World.drewN]; omega) ?_; intro b3 y3 w2 hB2 hC2 hat2))
          go_round
          case rel =>
            refine ⟨q + 1, b3, y3, by omega, by go_num, rfl, by rw [HS.out]; exact hB2, ?_⟩
            have h1 := hbl.out.trans ((below_drewN wr d).mono hbq)
            exact hC2.below (hb.out.trans ((h1.alloc (by simp [World.drewN]; omega) _).mono hbz)) (by simp [World.drewN]; omega) (by simp; omega)
          case measure => simp [intOf]; omega
    · obtain rfl : q = k := by omega
      have HFL := Lib.hid (fragK_len s p q)
      go_wp2
      go_ret
      refine ⟨b, y, ?_, by rw [← HFE.out]; exact hO.out.seenAt, hb.out⟩
      show Ending.returned (.slice (some ⟨b, 0, none⟩) q y) = _
      rw [← HFE.out, HFL.out]

end Go.Proofs.Ytnhledngeicekaa
