/-
  The walk of the law RsCopies.
-/
import Derived.Test.YtnhledngeicekaaLaw32
namespace Go.Proofs.Ytnhledngeicekaa
open Go.RowKit

theorem bne_no {a b : Nat} (h : a ≠ b) : ((a : Int) == (b : Int)) = false := by simp; omega

/-- Of one shard each fragment is it. -/
theorem frag_one (s : List (List Nat)) (p : Nat) (hs : s.length = 1) (hp : p < 256) (bs : Mt.By s) : frag s p = s.getD 0 [] := by
  refine getD_congr _ _ 0 (by rw [frag_len]) fun j hj => ?_
  rw [frag_len] at hj
  rw [frag_get s p j hj]
  have h1 := Mt.lagr_of [Mt.en s 0 j] (colv s j) p (fun c hc => by rw [List.mem_singleton.mp hc]; exact bs.lt 0 j) (colv_bytes s j bs) (by rw [colv_len, hs]; simp) (by rw [colv_len, hs]; omega) hp (fun i hi => by
    rw [colv_len, hs] at hi
    obtain rfl : i = 0 := by omega
    rw [colv_get s 0 j (by omega), Gf.eval_cons, Gf.eval_nil, Gf.zero_gm]
    simp)
  rw [← h1, Gf.eval_cons, Gf.eval_nil, Gf.zero_gm]
  simp [Mt.en]

theorem byte_of' {x : Int} (h : (Lit.int .u8 x).wf = true) : ∃ n : Nat, n < 256 ∧ x = (n : Int) := byte_of h


set_option maxRecDepth 100000 in
set_option maxHeartbeats 8000000 in
theorem rsCopies_walk (a0 : Option Addr) (len0 cap0 : Nat) (m0 : List (List Nat)) (a1 : Int) (w : World) (w0 : m0.length = len0 ∧ GridAt w a0 cap0 m0) (w1 : (Lit.int .u8 a1).wf = true) :
    Calls Try.prog 9 #[.slice a0 len0 cap0, .int .u8 a1] w fun e w' => e = .returned (.bool true) ∧ Below w.heap.size w w' := by
  obtain ⟨mm, hmm, rfl⟩ := byte_of w1
  have HCT := Lib.hid (cut3_any a0 cap0 len0 6 m0 w w0.2 w0.1 (by omega))
  have hsl := cutM_le m0 6
  have HWD := Lib.hid (cutM_row m0 6 0)
  clear w0 w1
  generalize cutM m0 6 = s at *
  obtain ⟨l, hl⟩ : ∃ l, s.length = l := ⟨_, rfl⟩
  rw [hl] at HCT hsl
  have HL := Lib.hid hl
  clear hl
  have HNZ : Hid ((mm : Int) % 9 = ((mm % 9 : Nat) : Int)) := by show _ = _; omega
  have hm9 : mm % 9 ≤ 8 := by omega
  go_enter Try.func9, Try.ntmps9
  go_wp2_with fail
  refine HCT.out.mono ?_
  rintro e w1 ⟨_, a, cap, rfl, hS, hb1⟩
  have HS1 := Lib.hid hS
  have HB1 := Lib.hid hb1
  clear hS hb1
  go_wp2_with fail
  rw [HNZ.out]
  clear HNZ
  generalize mm % 9 = m' at *
  by_cases hl1 : 1 ≤ l
  · obtain ⟨n, hn⟩ : ∃ n, l + m' = n := ⟨_, rfl⟩
    have hn2 : n ≤ 255 := by omega
    have HEN := Lib.hid (fun w => fun h => enc_any m' a cap l n s w h HL.out hl1 hn hn2 (by have := HWD.out; omega))
    have t : ((n : Int) != (l : Int) + (m' : Int)) = false := by simp; omega
    have hln : l ≤ n := by omega
    clear hn
    refine (HEN.out _ HS1.out).mono ?_
    rintro e w2 (⟨hne, rfl, hb2⟩ | ⟨hev, hfl, aF, cF, rfl, hF, hb2⟩)
    · have HB2 := Lib.hid (HB1.out.trans (hb2.mono HB1.out.size))
      have HS2 := Lib.hid (HS1.out.below hb2)
      have HEV := Lib.hid (fun w => fun h => even_loop false a cap l s w h HL.out hl1 ⟨fun e => by simp at e, fun e => absurd e hne⟩)
      have tl : ((l : Int) == 0) = false := by simp; omega
      clear hne hb2 t
      go_wp2_with fail
      refine (awake3 _).mono ?_
      rintro e w4 ⟨rfl, hb4⟩
      have HB4 := Lib.hid (HB2.out.trans (hb4.mono HB2.out.size))
      have HS4 := Lib.hid (HS2.out.below hb4)
      clear hb4
      go_wp2_with fail
      refine (HEV.out _ HS4.out).mono ?_
      rintro e w5 ⟨rfl, d, rfl⟩
      go_wp2
      go_ret
      exact ⟨rfl, HB4.out.trans ((below_drewN _ _).mono HB4.out.size)⟩
    · have HB2 := Lib.hid (HB1.out.trans (hb2.mono HB1.out.size))
      have HS2 := Lib.hid (HS1.out.below hb2)
      have HE := Lib.hid hev
      have HBY := Lib.hid HS1.out.by
      have HF := Lib.hid hF
      have HFL := Lib.hid hfl
      obtain ⟨bF, offF, _, _, e, _, _⟩ := hF.at 0 (by rw [hfl]; omega)
      subst e
      obtain ⟨bS, offS, rs0, rsc0, e, hs0, hSs0⟩ := HS2.out.at 0 (by rw [HL.out]; omega)
      subst e
      rw [Nat.add_zero] at hs0
      have HC0 := Lib.hid hs0
      have HSS0 := Lib.hid hSs0
      clear hev hF hfl hb2 hs0 hSs0
      go_wp2
      clear t
      go_loopw [8] (fun i ws => ∃ j d : Nat, j ≤ n ∧ i = .int .i64 j ∧ ws = w2.drewN d) (fun i _ => n - (intOf i).toNat)
      case atStart => exact ⟨0, 0, Nat.zero_le _, rfl, rfl⟩
      case round =>
        obtain ⟨j, d, hj, rfl, hws⟩ := hrel
        have HW := Lib.hid hws
        by_cases hlt : j < n
        · obtain ⟨b', off', ra, rc, e, hcj0, hSj0⟩ := HF.out.at j (by rw [HFL.out]; exact hlt)
          cases e
          rw [frags_row s n j hlt] at hcj0 hSj0
          have HFLN : Hid ((frag s j).length = (s.getD 0 []).length) := frag_len s j
          have hcj : wr.cell? ⟨bF, offF + j, none⟩ = some (.slice ra (frag s j).length rc) := by rw [hws]; exact hcj0
          have hc0 : wr.cell? ⟨bS, offS, none⟩ = some (.slice rs0 (s.getD 0 []).length rsc0) := by rw [hws]; exact HC0.out
          have hs : ∀ q, (convert 28 9 (.slice ra (frag s j).length rc)).run Try.prog (wr.drewN q) = .ok (.string (strB (frag s j))) (wr.drewN q) := by
            intro q; rw [hws, World.drewN_drewN]; exact str_of (hSj0.drewN _)
          have hs2 : ∀ q, (convert 28 9 (.slice rs0 (s.getD 0 []).length rsc0)).run Try.prog (wr.drewN q) = .ok (.string (strB (s.getD 0 []))) (wr.drewN q) := by
            intro q; rw [hws, World.drewN_drewN]; exact str_of (HSS0.out.drewN _)
          have j0 : (0 : Int) ≤ (j : Int) := by omega
          have j1 : (j : Int) < (n : Int) := by omega
          have l0 : (0 : Int) < (l : Int) := by omega
          clear hcj0 hSj0
          by_cases hjl : j < l
          · obtain ⟨b'', off'', rs, rsc, e, hcs0, hSs⟩ := HS2.out.at j (by rw [HL.out]; exact hjl)
            cases e
            have HFF := Lib.hid (frag_first s j (by rw [HL.out]; exact hjl) (by rw [HL.out]; omega) (HE.out j (by rw [HL.out]; exact hjl)) HBY.out)
            rw [HFF.out] at hcj hs
            have hcs : wr.cell? ⟨bS, offS + j, none⟩ = some (.slice rs (s.getD j []).length rsc) := by rw [hws]; exact hcs0
            have hs3 : ∀ q, (convert 28 9 (.slice rs (s.getD j []).length rsc)).run Try.prog (wr.drewN q) = .ok (.string (strB (s.getD j []))) (wr.drewN q) := by
              intro q; rw [hws, World.drewN_drewN]; exact str_of (hSs.drewN _)
            have d1 : decide ((j : Int) < (l : Int)) = true := decide_eq_true (by omega)
            have j2 : (j : Int) < (l : Int) := by omega
            clear hcs0 hSs
            by_cases hone : l = 1
            · have ej : s.getD j [] = s.getD 0 [] := by rw [show j = 0 by omega]
              rw [ej] at hcj hs hcs hs3
              clear ej
              have tl : ((l : Int) == 1) = true := by simp; omega
              clear hws HFF HFLN
              generalize strB (s.getD 0 []) = st at *
              generalize (s.getD 0 []).length = q0 at *
              clear hone
              go_wp2
              go_quiet (fail)
              go_wp2
              go_round
              case rel => exact ⟨j + 1, d + nq, by omega, by go_num, by rw [HW.out, World.drewN_drewN]⟩
              case measure => simp [intOf]; omega
            · have tl : ((l : Int) == 1) = false := by simp; omega
              clear hws HFF HFLN hs2 hc0
              generalize strB (s.getD j []) = st at *
              generalize (s.getD j []).length = q0 at *
              clear hone
              go_wp2
              go_quiet (fail)
              go_wp2
              go_round
              case rel => exact ⟨j + 1, d + nq, by omega, by go_num, by rw [HW.out, World.drewN_drewN]⟩
              case measure => simp [intOf]; omega
          · have d1 : decide ((j : Int) < (l : Int)) = false := decide_eq_false (by omega)
            by_cases hone : l = 1
            · have HFO := Lib.hid (frag_one s j (by rw [HL.out]; exact hone) (by omega) HBY.out)
              rw [HFO.out] at hcj hs
              have tl : ((l : Int) == 1) = true := by simp; omega
              clear hws HFO HFLN
              generalize strB (s.getD 0 []) = st at *
              generalize (s.getD 0 []).length = q0 at *
              clear hone
              go_wp2
              go_quiet (fail)
              go_wp2
              go_round
              case rel => exact ⟨j + 1, d + nq, by omega, by go_num, by rw [HW.out, World.drewN_drewN]⟩
              case measure => simp [intOf]; omega
            · have tl : ((l : Int) == 1) = false := by simp; omega
              clear hws HFLN hs2 hc0 hcj hs
              clear hone
              go_wp2
              go_quiet (fail)
              go_wp2
              go_round
              case rel => exact ⟨j + 1, d + nq, by omega, by go_num, by rw [HW.out, World.drewN_drewN]⟩
              case measure => simp [intOf]; omega
        · obtain rfl : j = n := by omega
          clear hws
          go_wp2_with fail
          refine (awake3 _).mono ?_
          rintro e w4 ⟨rfl, hb4⟩
          have HB4 := Lib.hid (HB2.out.trans (by have := below_drewN w2 d; rw [← HW.out] at this; exact (this.trans (hb4.mono this.size)).mono HB2.out.size))
          go_wp2
          go_ret
          exact ⟨rfl, HB4.out⟩
  · obtain rfl : l = 0 := by omega
    refine (enc_no (m' : Int) a cap 0 _ (by omega) (by rintro ⟨h, _⟩; omega)).mono ?_
    rintro e w' ⟨rfl, rfl⟩
    go_wp2_with fail
    refine (awake3 _).mono ?_
    rintro e w4 ⟨rfl, hb4⟩
    have HB4 := Lib.hid (HB1.out.trans (hb4.mono HB1.out.size))
    go_wp2
    go_ret
    exact ⟨rfl, HB4.out⟩

end Go.Proofs.Ytnhledngeicekaa
