/-
  The walk of the law BlobDecodes.
-/
import Derived.Test.YtjefjlalebpodaaLaw61
import Derived.Test.YtjefjlalebpodaaWalksT1
namespace Go.Proofs.Ytjefjlalebpodaa
open Go.RowKit

/-- The first j fragments have at most 300 bytes. -/
def Short3 (fs : List Fr) (j : Nat) : Prop := ∀ q, q < j → (fs.getD q fr0).data.length ≤ 300

theorem Short3.head {fs : List Fr} {l : Nat} (h : Short3 fs l) (hl : fs.length = l) : (fs.getD 0 fr0).data.length ≤ 300 := by
  by_cases h0 : 0 < l
  · exact h 0 h0
  · rw [List.getD_eq_getElem?_getD, List.getElem?_eq_none (by omega)]; simp [fr0]

theorem word_of {x : Int} (h : (Lit.int .u32 x).wf = true) : ∃ n : Nat, n < 4294967296 ∧ x = (n : Int) := by
  have h1 : 0 ≤ x ∧ x ≤ 4294967295 := by simpa [Lit.wf, IntKind.min, IntKind.max, IntKind.signed, IntKind.bits] using h
  exact ⟨x.toNat, by omega, by omega⟩

theorem catP_get (s : Nat) (S : List (List Nat)) (i : Nat) (h1 : i < s) (h2 : i < S.flatten.length) : (catP s S).getD i 0 = S.flatten.getD i 0 := by
  unfold catP
  rw [getD_appL _ _ _ _ (by rw [List.length_take]; omega), getD_takeB _ _ _ _ h1]

/-- The bytes of a fragment that is a shard are the blob's. -/
theorem dec_byte (S : List (List Nat)) (k v p x s : Nat) (data : List Nat) (hl : S.length = k) (hk : k ≤ 255) (hr : ∀ i, i < k → (S.getD i []).length = v) (hb : Mt.By S) (hf : frag S p = data) (hp : p < k) (hx : x < v) (hs : p * v + x < s) :
    (catP s S).getD (p * v + x) 0 = data.getD x 0 := by
  have hrow := row_mem hl hr
  have hfl := flat_len v S hrow
  have hlt : p * v + x < S.flatten.length := by
    rw [hfl, hl]
    have : (p + 1) * v ≤ k * v := Nat.mul_le_mul_right v (by omega)
    rw [Nat.succ_mul] at this
    omega
  rw [catP_get s S _ hs hlt, flat_get v S p x hrow (by omega) hx, ← hf, frag_first S p (by omega) (by omega) (by rw [hr p hp, hr 0 (by omega)]) hb]



set_option maxRecDepth 100000 in
set_option maxHeartbeats 16000000 in
theorem blobDecodes_walk (a0 a1 a2 a3 : Int) (a4 : Option Addr) (len4 cap4 : Nat) (m4 : List Fr) (w : World) (w0 : (Lit.int .u8 a0).wf = true) (w1 : (Lit.int .u8 a1).wf = true) (w2 : (Lit.int .i64 a2).wf = true) (w3 : (Lit.int .u32 a3).wf = true) (w4 : m4.length = len4 ∧ FrsAt w a4 cap4 m4) :
    Calls Try.prog 11 #[.int .u8 a0, .int .u8 a1, .int .i64 a2, .int .u32 a3, .slice a4 len4 cap4] w fun e w' => e = .returned (.bool true) ∧ Below w.heap.size w w' := by
  obtain ⟨kk, hkk, rfl⟩ := byte_of w0
  obtain ⟨mm, hmm, rfl⟩ := byte_of w1
  obtain ⟨z, hz32, rfl⟩ := word_of w3
  have b2 := wf64 w2
  have HL4 := Lib.hid w4.1
  have HF0 := Lib.hid w4.2
  have hlc := w4.2.le
  have hcm := w4.2.max
  rw [w4.1] at hlc
  unfold maxLen at hcm
  clear w0 w1 w2 w3 w4
  have HNZ : Hid ((kk : Int) % 5 + 1 = ((kk % 5 + 1 : Nat) : Int)) := by show _ = _; omega
  have HMZ : Hid ((mm : Int) % 4 = ((mm % 4 : Nat) : Int)) := by show _ = _; omega
  have hk5 : kk % 5 + 1 ≤ 5 := by omega
  have hk1 : 1 ≤ kk % 5 + 1 := by omega
  have hm4 : mm % 4 ≤ 3 := by omega
  go_enter Try.func11, Try.ntmps11
  go_upto_if 32 with fail
  rw [HNZ.out, HMZ.out]
  clear HNZ HMZ
  generalize kk % 5 + 1 = k at *
  generalize mm % 4 = m at *
  go_cut [4, 32] (fun s _ wx => (∃ (l : Nat) (fs : List Fr), s = .slice a4 l cap4 ∧ fs.length = l ∧ l ≤ 12 ∧ FrsAt w a4 cap4 fs) ∧ wx = w)
  case first =>
    by_cases h12 : 12 < len4
    · have d12 : decide ((12 : Int) < (len4 : Int)) = true := by simp; omega
      obtain ⟨b9, off9, e, _, _, _⟩ := HF0.out.el 0 (by rw [HL4.out]; omega)
      subst e
      have hcc : 12 ≤ cap4 := by omega
      have HTK := Lib.hid (HF0.out.take 12)
      have HTL : Hid ((m4.take 12).length = 12) := by show _ = _; rw [List.length_take, HL4.out]; omega
      go_wp2_with fail
      go_meet
      exact ⟨⟨12, m4.take 12, rfl, HTL.out, by omega, HTK.out⟩, rfl⟩
    · have d12 : decide ((12 : Int) < (len4 : Int)) = false := by simp; omega
      go_wp2_with fail
      go_meet
      exact ⟨⟨len4, m4, rfl, HL4.out, by omega, HF0.out⟩, rfl⟩
  case rest =>
  obtain ⟨⟨l, fs, rfl, hl, hl2, hF⟩, hw⟩ := hcut
  obtain rfl := hw.symm
  have HL := Lib.hid hl
  have HF := Lib.hid hF
  clear hl hF HF0 HL4 hlc hcm
  go_wp2
  go_loop [13] (fun i => ∃ j : Nat, j ≤ l ∧ i = .int .i64 j ∧ Hid (Short3 fs j)) (fun i => l - (intOf i).toNat)
  case atStart => exact ⟨0, Nat.zero_le _, rfl, fun q hq => by omega⟩
  case round =>
    obtain ⟨j, hj, rfl, hS⟩ := hrel
    by_cases hlt : j < l
    · obtain ⟨b2, off2, e, _, hc1, hSj⟩ := HF.out.el j (by rw [HL.out]; exact hlt)
      subst e
      have hle := Nat.le_trans hSj.le hSj.max
      unfold maxLen at hle
      clear hSj
      have j0 : (0 : Int) ≤ (j : Int) := by omega
      have j1 : (j : Int) < (l : Int) := by omega
      by_cases h20 : (fs.getD j fr0).data.length ≤ 300
      · have HS1 : Hid (Short3 fs (j + 1)) := fun q hq => by
          by_cases e : q = j
          · subst e; exact h20
          · exact hS.out q (by omega)
        generalize (fs.getD j fr0).data.length = q at *
        have t : decide ((300 : Int) < (q : Int)) = false := decide_eq_false (by omega)
        have t2 : decide (300 < q) = false := decide_eq_false (by omega)
        go_wp2
        go_round
        case rel => exact ⟨j + 1, by omega, by go_num, HS1⟩
        case measure => simp [intOf]; omega
      · generalize (fs.getD j fr0).data.length = q at *
        have t : decide ((300 : Int) < (q : Int)) = true := decide_eq_true (by omega)
        have t2 : decide (300 < q) = true := decide_eq_true (by omega)
        go_wp2_with fail
        refine (awake6 _).mono ?_
        rintro e w5 ⟨rfl, hb5⟩
        go_wp2
        go_ret
        exact ⟨rfl, hb5⟩
    · obtain rfl : j = l := by omega
      have HSH := Lib.hid (hS.out.head HL.out)
      clear hS
      by_cases hs0 : a2 < 0
      · have d0 : decide (a2 < 0) = true := decide_eq_true hs0
        have hsz : a2 < 0 ∨ 256 < a2 := .inl hs0
        go_wp2_with fail
        refine (decB_large _ _ _ _ _ _ hsz).mono ?_
        rintro e w' ⟨rfl, rfl⟩
        go_wp2_with fail
        refine (awake6 _).mono ?_
        rintro e w9 ⟨rfl, hb9⟩
        go_wp2
        go_ret
        exact ⟨rfl, hb9⟩
      have d0 : decide (a2 < 0) = false := decide_eq_false hs0
      by_cases hs1 : 256 < a2
      · have d1 : decide (256 < a2) = true := decide_eq_true hs1
        have hsz : a2 < 0 ∨ 256 < a2 := .inr hs1
        go_wp2_with fail
        refine (decB_large _ _ _ _ _ _ hsz).mono ?_
        rintro e w' ⟨rfl, rfl⟩
        go_wp2_with fail
        refine (awake6 _).mono ?_
        rintro e w9 ⟨rfl, hb9⟩
        go_wp2
        go_ret
        exact ⟨rfl, hb9⟩
      obtain ⟨s, rfl⟩ : ∃ s : Nat, a2 = (s : Int) := ⟨a2.toNat, by omega⟩
      have hs256 : s ≤ 256 := by omega
      have d1 : decide (256 < (s : Int)) = false := decide_eq_false hs1
      have d1' : decide (256 < s) = false := decide_eq_false (by omega)
      clear hs0 hs1
      obtain ⟨n, hn⟩ : ∃ n, k + m = n := ⟨_, rfl⟩
      have hn2 : n ≤ 255 := by omega
      have HDE := Lib.hid (fun w => fun (h : FrsAt w a4 cap4 fs) => decB_any a4 cap4 j k m n s z fs w h HL.out (by omega) hk1 hn hn2 (by have := HSH.out; omega) hs256)
      have HCK := Lib.hid (fun w => fun (h : FrsAt w a4 cap4 fs) => check_any a4 cap4 j k m n fs w h HL.out (by omega) hk1 hn hn2)
      have HFI := Lib.hid (fun w => fun (h : FrsAt w a4 cap4 fs) => first_any a4 cap4 j k fs w h HL.out (by omega) (by omega))
      have HRW := Lib.hid (fun w => rwidth_yes s k w hk1 (by omega))
      have hvl := wd_le s k hk1
      clear hn
      go_wp2_with fail
      refine (HDE.out _ HF.out).mono ?_
      rintro e w2 ⟨hb2, ⟨hg, rfl⟩ | ⟨hg, hf, rfl⟩ | ⟨hg, hf, S, hBe, hBy, hres⟩⟩
      · have HB2 := Lib.hid hb2
        have HF2 := Lib.hid (HF.out.below hb2)
        have HG := Lib.hid hg
        clear hb2 hg
        go_wp2_with fail
        refine (HCK.out _ HF2.out).mono ?_
        rintro e w3 ⟨hb3, ⟨_, rfl⟩ | ⟨g1, _, _⟩ | ⟨g1, _, _⟩⟩
        rotate_left
        · exact absurd g1 HG.out
        · exact absurd g1 HG.out
        have HB3 := Lib.hid (HB2.out.trans (hb3.mono HB2.out.size))
        clear hb3
        go_wp2_with fail
        refine (awake6 _).mono ?_
        rintro e w9 ⟨rfl, hb9⟩
        have HB9 := Lib.hid (HB3.out.trans (hb9.mono HB3.out.size))
        clear hb9
        go_wp2
        go_ret
        exact ⟨rfl, HB9.out⟩
      · have HB2 := Lib.hid hb2
        have HF2 := Lib.hid (HF.out.below hb2)
        have HG := Lib.hid hg
        have HFW := Lib.hid hf
        clear hb2 hg hf
        go_wp2_with fail
        refine (HCK.out _ HF2.out).mono ?_
        rintro e w3 ⟨hb3, ⟨g1, _⟩ | ⟨_, _, rfl⟩ | ⟨_, g2, _⟩⟩
        · exact absurd HG.out g1
        rotate_left
        · have := HFW.out; omega
        have HB3 := Lib.hid (HB2.out.trans (hb3.mono HB2.out.size))
        clear hb3
        go_wp2_with fail
        refine (awake6 _).mono ?_
        rintro e w9 ⟨rfl, hb9⟩
        have HB9 := Lib.hid (HB3.out.trans (hb9.mono HB3.out.size))
        clear hb9
        go_wp2
        go_ret
        exact ⟨rfl, HB9.out⟩
      · have HB2 := Lib.hid hb2
        have HF2 := Lib.hid (HF.out.below hb2)
        have HG := Lib.hid hg
        have HFW := Lib.hid hf
        have HCO := Lib.hid (chosen_of hg hf)
        have HBE := Lib.hid hBe
        have HBY := Lib.hid hBy
        have HSP := Lib.hid (hBe.shape (chosen_of hg hf) (by omega))
        clear hb2 hg hf hBe hBy
        rcases hres with ⟨_, rfl⟩ | ⟨hL, hZ, g, rfl, hO⟩
        · go_wp2_with fail
          refine (HCK.out _ HF2.out).mono ?_
          rintro e w3 ⟨hb3, ⟨g1, _⟩ | ⟨_, g2, _⟩ | ⟨_, _, rfl⟩⟩
          · exact absurd HG.out g1
          · have := HFW.out; omega
          have HB3 := Lib.hid (HB2.out.trans (hb3.mono HB2.out.size))
          clear hb3
          go_wp2_with fail
          refine (awake6 _).mono ?_
          rintro e w9 ⟨rfl, hb9⟩
          have HB9 := Lib.hid (HB3.out.trans (hb9.mono HB3.out.size))
          clear hb9
          go_wp2
          go_ret
          exact ⟨rfl, HB9.out⟩
        have HLE := Lib.hid hL
        have HZZ := Lib.hid hZ
        have HO := Lib.hid hO.seenAt
        clear hL hZ hO
        go_wp2_with fail
        refine (HCK.out _ HF2.out).mono ?_
        rintro e w3 ⟨hb3, ⟨g1, _⟩ | ⟨_, g2, _⟩ | ⟨_, _, rfl⟩⟩
        · exact absurd HG.out g1
        · have := HFW.out; omega
        have HB3 := Lib.hid (HB2.out.trans (hb3.mono HB2.out.size))
        have HF3 := Lib.hid (HF2.out.below hb3)
        have HO3 := Lib.hid (HO.out.below hb3)
        clear hb3 HB2 HF2 HO
        have t1 : ((s : Int) != (s : Int)) = false := by simp
        have t2 : ((z : Int) != (z : Int)) = false := by simp
        have HRO := Lib.hid (refOf_any (some ⟨g, 0, none⟩) s s (catP s S) w3 (catP_len s S) (by omega) HO3.out)
        rw [HZZ.out] at HRO
        go_wp2_with fail
        refine HRO.out.mono ?_
        rintro e w4 ⟨rfl, hb4⟩
        have HB4 := Lib.hid (HB3.out.trans (hb4.mono HB3.out.size))
        have HF4 := Lib.hid (HF3.out.below hb4)
        have HO4 := Lib.hid (HO3.out.below hb4)
        clear hb4 HB3 HF3 HO3
        go_wp2_with fail
        refine (HRW.out _).mono ?_
        rintro e w' ⟨rfl, rfl⟩
        generalize hv : wd s k = v at *
        have HV := Lib.hid hv
        clear hv t1 t2
        have HDL : Hid (∀ q, q < j → (fs.getD q fr0).data.length = v) := fun q hq => by
          rw [(HG.out q (by rw [HL.out]; exact hq)).2]
          exact HLE.out
        go_wp2
        go_loop [18] (fun i => ∃ q : Nat, q ≤ j ∧ i = .int .i64 q) (fun i => j - (intOf i).toNat)
        case atStart => exact ⟨0, Nat.zero_le _, rfl⟩
        case round =>
          obtain ⟨q, hq, rfl⟩ := hrel
          by_cases hlq : q < j
          · obtain ⟨b5, off5, e, _, hc1, _⟩ := HF4.out.el q (by rw [HL.out]; exact hlq)
            subst e
            rw [HDL.out q hlq] at hc1
            have q0 : (0 : Int) ≤ (q : Int) := by omega
            have q1 : (q : Int) < (j : Int) := by omega
            have t : ((v : Int) != (v : Int)) = false := by simp
            go_wp2
            go_round
            case rel => exact ⟨q + 1, by omega, by go_num⟩
            case measure => simp [intOf]; omega
          · obtain rfl : q = j := by omega
            go_wp2_with fail
            refine (HFI.out _ HF4.out).mono ?_
            rintro e w6 ⟨aI, nI, cI, rfl, hnI, hI, hb6⟩
            have HCL := Lib.hid HCO.out.len
            have hnk : k ≤ nI := by rw [← hnI, HCL.out]; exact Nat.le_refl _
            have hnk2 : nI ≤ k := by rw [← hnI, HCL.out]; exact Nat.le_refl _
            obtain ⟨bI, offI, e, _, _, _⟩ := hI.el 0 (by rw [HCL.out]; omega)
            subst e
            have HI := Lib.hid hI
            have HB6 := Lib.hid (HB4.out.trans (hb6.mono HB4.out.size))
            have HO6 := Lib.hid (HO4.out.below hb6)
            have HBD := Lib.hid (HCO.out.by hI HCO.out.len)
            clear hnI hI hb6 HB4 HF4 HO4
            go_wp2
            go_loopw [20, 21, 22] (fun i _ _ ws => ∃ y : Nat, y ≤ nI ∧ i = .int .i64 y ∧ Hid (Below w6.heap.size w6 ws)) (fun i _ _ _ => nI - (intOf i).toNat)
            case atStart => exact ⟨0, Nat.zero_le _, rfl, Below.refl _ _⟩
            case round =>
              obtain ⟨y, hy, rfl, hb⟩ := hrel
              have hbz := hb.out.size
              by_cases hly : y < nI
              · obtain ⟨b', off', e, hc0, hc1, hSq⟩ := HI.out.el y (by rw [HCL.out]; omega)
                cases e
                have hqc : y < ((firsts fs).take k).length := by rw [HCL.out]; omega
                have hmem := getD_mem ((firsts fs).take k) y fr0 hqc
                have hpp := HCO.out.pos _ hmem
                have hdl := HCO.out.dat _ hmem
                rw [HLE.out] at hdl
                have HFG := Lib.hid (HBE.out.frag HCO.out (by omega) HBD.out y (by omega))
                obtain ⟨p, hpn⟩ : ∃ p : Nat, (((firsts fs).take k).getD y fr0).pos = (p : Int) := Int.eq_ofNat_of_zero_le hpp.1
                rw [hpn] at hc0 hpp
                have HFG2 : Hid (frag S p = (((firsts fs).take k).getD y fr0).data) := by show _ = _; rw [← HFG.out, hpn]; rfl
                have HC0 := Lib.hid (fun (x : World) (h : Below w6.heap.size w6 x) => cell_later h hc0)
                rw [hdl] at hc1
                have HC1 := Lib.hid (fun (x : World) (h : Below w6.heap.size w6 x) => cell_later h hc1)
                have HSQ := Lib.hid hSq
                have HDD := Lib.hid hdl
                have hpn2 : p < n := by have := hpp.2; omega
                clear hpn HFG hqc hmem hc0 hc1 hSq hdl hpp
                generalize ((firsts fs).take k).getD y fr0 = f at *
                have y0 : (0 : Int) ≤ (y : Int) := by omega
                have y1 : (y : Int) < (nI : Int) := by omega
                have hc0 := HC0.out wr hb.out
                by_cases hpk : p < k
                · have dp : decide ((p : Int) < (k : Int)) = true := decide_eq_true (by omega)
                  have dp' : decide (p < k) = true := decide_eq_true (by omega)
                  have hpv : p * v ≤ 255 * 256 := Nat.mul_le_mul (by omega) (by omega)
                  have m0 : (0 : Int) ≤ (p : Int) * (v : Int) := Int.mul_nonneg (by omega) (by omega)
                  have me : (p : Int) * (v : Int) = ((p * v : Nat) : Int) := by push_cast; rfl
                  have m1 : (p : Int) * (v : Int) ≤ 65280 := by omega
                  have HME := Lib.hid me
                  have HRR : Hid (∀ i, i < k → (S.getD i []).length = v) := fun i hi => by rw [HSP.out.2 i hi]; exact HLE.out
                  clear me
                  go_wp2
                  clear hc0
                  go_loopw [22] (fun i ws => ∃ x : Nat, x ≤ v ∧ i = .int .i64 x ∧ Hid (Below w6.heap.size w6 ws)) (fun i _ => v - (intOf i).toNat)
                  case atStart => exact ⟨0, Nat.zero_le _, rfl, hb⟩
                  case round =>
                    clear hb hbz
                    obtain ⟨x, hx, rfl, hb⟩ := hrel
                    by_cases hlx : x < v
                    · have hme := HME.out
                      by_cases hin : p * v + x < s
                      · have HEQ := Lib.hid (dec_byte S k v p x s f.data HSP.out.1 (by omega) HRR.out HBY.out HFG2.out hpk hlx hin)
                        obtain ⟨b7, off7, e7, hc7⟩ := (HSQ.out.below hb.out).cell x (by rw [HDD.out]; exact hlx)
                        obtain ⟨b8, off8, e8, hc8⟩ := (HO6.out.below hb.out).cell (p * v + x) (by rw [catP_len]; exact hin)
                        cases e8
                        rw [HEQ.out, Nat.zero_add] at hc8
                        have hc1 := HC1.out wr hb.out
                        rw [e7] at hc1
                        generalize f.data.getD x 0 = u at *
                        have i1 : (p : Int) * (v : Int) + (x : Int) < (s : Int) := by omega
                        have e1 : decide ((p : Int) * (v : Int) + (x : Int) < (s : Int)) = true := decide_eq_true i1
                        have i0 : (0 : Int) ≤ (p : Int) * (v : Int) + (x : Int) := by omega
                        have tn : ((p : Int) * (v : Int) + (x : Int)).toNat = p * v + x := by omega
                        have x0 : (0 : Int) ≤ (x : Int) := by omega
                        have x1 : (x : Int) < (v : Int) := by omega
                        have tu : ((u : Int) != (u : Int)) = false := by simp
                        clear hme
                        go_upto_region 34 with fail
                        go_cut [177] (fun sl wx => sl = .bool false ∧ ∃ d, wx = wr.drewN d)
                        case first =>
                          go_quiet (fail)
                          go_wp2_with fail
                          go_meet
                          exact ⟨rfl, _, rfl⟩
                        case rest =>
                        obtain ⟨rfl, d, rfl⟩ := hcut
                        have HBD2 := Lib.hid (hb.out.trans ((below_drewN wr d).mono hb.out.size))
                        go_wp2
                        go_round
                        case rel => exact ⟨x + 1, by omega, by go_num, HBD2⟩
                        case measure => simp [intOf]; omega
                      · have i1 : ¬ (p : Int) * (v : Int) + (x : Int) < (s : Int) := by omega
                        have e1 : decide ((p : Int) * (v : Int) + (x : Int) < (s : Int)) = false := decide_eq_false i1
                        clear hme
                        go_upto_region 34 with fail
                        go_cut [177] (fun sl wx => sl = .bool false ∧ ∃ d, wx = wr.drewN d)
                        case first =>
                          go_quiet (fail)
                          go_wp2_with fail
                          go_meet
                          exact ⟨rfl, _, rfl⟩
                        case rest =>
                        obtain ⟨rfl, d, rfl⟩ := hcut
                        have HBD2 := Lib.hid (hb.out.trans ((below_drewN wr d).mono hb.out.size))
                        go_wp2
                        go_round
                        case rel => exact ⟨x + 1, by omega, by go_num, HBD2⟩
                        case measure => simp [intOf]; omega
                    · obtain rfl : x = v := by omega
                      go_wp2
                      go_round
                      case rel => exact ⟨y + 1, by omega, by go_num, hb⟩
                      case measure => simp [intOf]; omega
                · have dp : decide ((p : Int) < (k : Int)) = false := decide_eq_false (by omega)
                  have dp' : decide (p < k) = false := decide_eq_false (by omega)
                  go_wp2
                  go_round
                  case rel => exact ⟨y + 1, by omega, by go_num, hb⟩
                  case measure => simp [intOf]; omega
              · have hyn : nI ≤ y := by omega
                go_wp2_with fail
                refine (awake6 _).mono ?_
                rintro e w9 ⟨rfl, hb9⟩
                have HB9 := Lib.hid (HB6.out.trans ((hb.out.trans (hb9.mono hb.out.size)).mono HB6.out.size))
                go_wp2
                go_ret
                exact ⟨rfl, HB9.out⟩

end Go.Proofs.Ytjefjlalebpodaa
