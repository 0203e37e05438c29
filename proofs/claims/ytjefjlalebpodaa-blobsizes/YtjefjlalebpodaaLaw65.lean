/-
  The walk of the law BlobSizes.
-/
import Derived.Test.YtjefjlalebpodaaLaw61
namespace Go.Proofs.Ytjefjlalebpodaa
open Go.RowKit


theorem slice_to (b off q c l : Nat) (h : l ≤ c) (w : World) : (Instr.slice 22 (.slice (some ⟨b, off, none⟩) q c) none (some (.int .i64 (l : Int))) none).run Try.prog w = .ok (.slice (some ⟨b, off, none⟩) l c) w := by
  rw [run_slice_h w 22 (some ⟨b, off, none⟩) q c (by kernel_rfl) .i64 (l : Int) (by omega) (by omega)]
  have hs : (sizeOf (Try.prog.elem 22)).run Try.prog w = .ok 1 w := by kernel_rfl
  rw [hs]
  simp [Result.andThen, sliced, Addr.add]

theorem slice_to' (b off q c l : Nat) (h : l ≤ c) (w : World) : (Instr.sliceAt 22 (.slice (some ⟨b, off, none⟩) q c) none (some (.int .i64 (l : Int))) none).run Try.prog w = .ok (.slice (some ⟨b, off, none⟩) l c) w := by
  rw [run_sliceAt_slice w 22 _ _ _ _ (by kernel_rfl)]
  exact slice_to b off q c l h w

theorem flat_take_le (S : List (List Nat)) (j : Nat) : (S.take j).flatten.length ≤ S.flatten.length := by
  have : S.flatten = (S.take j).flatten ++ (S.drop j).flatten := by rw [← List.flatten_append, List.take_append_drop]
  rw [this, List.length_append]
  omega

/-- What the law knows of the shards. -/
structure Sh5 (s : List (List Nat)) (ps : List Nat) (n N l v T : Nat) : Prop where
  len : s.length = n
  row : ∀ i, i < N → (frag s i).length = v
  fst : ∀ i, i < n → frag s i = s.getD i []
  flen : s.flatten.length = T
  tk : s.flatten.take l = ps
  zero : ∀ i, l ≤ i → s.flatten.getD i 0 = 0

theorem sh5_of (ps : List Nat) (n N l : Nat) (hl : ps.length = l) (hb : Gf.Bytes ps) (hn : 1 ≤ n) (hn2 : n ≤ 255) : Sh5 (shds ps n) ps n N l (wd l n) (n * wd l n) where
  len := shds_len ps n
  row i _ := by rw [frag_len, shds_width ps n hn, hl]
  fst i hi := frag_first _ i (by rw [shds_len]; exact hi) (by rw [shds_len]; omega) (shds_ev ps n i (by rw [shds_len]; exact hi)) (shds_by ps n hb)
  flen := by rw [shds_flat_len, hl]
  tk := by rw [shds_flat ps n hn, ← hl, List.take_left]
  zero i hi := by
    rw [shds_flat ps n hn, getD_appR _ _ _ _ (by omega), List.getD_eq_getElem?_getD, List.getElem?_replicate]
    split <;> rfl

set_option maxRecDepth 100000 in
set_option maxHeartbeats 8000000 in
theorem blobSizes_walk (a0 a1 : Int) (a2 : Option Addr) (len2 cap2 : Nat) (m2 : List Nat) (w : World) (w0 : (Lit.int .u8 a0).wf = true) (w1 : (Lit.int .u8 a1).wf = true) (w2 : m2.length = len2 ∧ SeenAt w a2 cap2 m2) :
    Calls Try.prog 12 #[.int .u8 a0, .int .u8 a1, .slice a2 len2 cap2] w fun e w' => e = .returned (.bool true) ∧ Below w.heap.size w w' := by
  obtain ⟨kk, hkk, rfl⟩ := byte_of w0
  obtain ⟨mm, hmm, rfl⟩ := byte_of w1
  have h2 : len2 ≤ cap2 := by have := w2.1; have := w2.2.le; omega
  have hm2 : cap2 ≤ maxLen := w2.2.max
  unfold maxLen at hm2
  have H2 := Lib.hid w2.1
  have S2 := Lib.hid w2.2
  clear w0 w1 w2
  have HNZ : Hid ((kk : Int) % 9 + 1 = ((kk % 9 + 1 : Nat) : Int)) := by show _ = _; omega
  have HMZ : Hid ((mm : Int) % 5 = ((mm % 5 : Nat) : Int)) := by show _ = _; omega
  have hk9 : kk % 9 + 1 ≤ 9 := by omega
  have hk1 : 1 ≤ kk % 9 + 1 := by omega
  have hm5 : mm % 5 ≤ 4 := by omega
  go_enter Try.func12, Try.ntmps12
  go_upto_if 17 with fail
  go_cut [2, 17] (fun s _ wx => Clmp w a2 cap2 256 s ∧ wx = w)
  case first =>
    by_cases hM : 256 < len2
    · have d1 : decide ((256 : Int) < (len2 : Int)) = true := by simp; omega
      obtain ⟨b, off, e, _⟩ := (S2.out).cell 0 (by rw [H2.out]; omega)
      subst e
      have hcc : 256 ≤ cap2 := by omega
      have HTK := Lib.hid ((S2.out).take 256)
      have HTL : Hid ((List.take 256 m2).length = 256) := by show _ = _; rw [List.length_take, H2.out]; omega
      go_wp2_with fail
      go_meet
      exact ⟨⟨256, List.take 256 m2, rfl, by omega, HTL.out, HTK.out⟩, rfl⟩
    · have d1 : decide ((256 : Int) < (len2 : Int)) = false := by simp; omega
      go_wp2_with fail
      go_meet
      exact ⟨⟨len2, m2, rfl, by omega, H2.out, S2.out⟩, rfl⟩
  case rest =>
  obtain ⟨⟨l, ps, rfl, hl3, hl, hs⟩, hw⟩ := hcut
  obtain rfl := hw.symm
  have HL := Lib.hid hl
  have HS := Lib.hid hs
  have hlc : l ≤ cap2 := by rw [← hl]; exact hs.le
  clear hl hs H2 S2
  go_wp2_with fail
  rw [HNZ.out, HMZ.out]
  clear HNZ HMZ
  generalize kk % 9 + 1 = n at *
  generalize mm % 5 = m' at *
  obtain ⟨N, hN⟩ : ∃ N, n + m' = N := ⟨_, rfl⟩
  have HEN := Lib.hid (fun w => fun h => encB_any n m' N a2 cap2 l ps w HL.out h (by omega) hk1 hN (by omega))
  have HSH := Lib.hid (sh5_of ps n N l HL.out HS.out.byte hk1 (by omega))
  have HWD := Lib.hid (fun w => width_yes l n w hk1 (by omega))
  have hge := wd_ge l n hk1
  have hlt := wd_lt l n hk1
  have hvl := wd_le l n hk1
  generalize n * wd l n = T at *
  generalize wd l n = v at *
  generalize shds ps n = s at *
  have t : ((N : Int) != (n : Int) + (m' : Int)) = false := by simp; omega
  have hna : N ≤ n + m' := by omega
  have hnb : n + m' ≤ N := by omega
  clear hN
  refine (HEN.out _ HS.out).mono ?_
  rintro e w2 ⟨hfl, aF, cF, rfl, hF, hb2⟩
  have HB2 := Lib.hid hb2
  have HF := Lib.hid hF
  have HFL := Lib.hid hfl
  have HS2 := Lib.hid (HS.out.below hb2)
  obtain ⟨bF, offF, _, _, e, _, _⟩ := hF.at 0 (by rw [hfl]; omega)
  subst e
  clear hF hfl hb2
  go_wp2_with fail
  refine (HWD.out _).mono ?_
  rintro e w' ⟨rfl, rfl⟩
  clear t
  have HN0 := Lib.hid (ownB_lit w2 w2.heap.size [] #[] rfl bytes_nil (Nat.le_refl _) (by unfold maxLen; simp))
  go_wp2
  go_loopw [12, 13] (fun d i ws => ∃ j q g c : Nat, j ≤ N ∧ i = .int .i64 j ∧ d = .slice (some ⟨g, 0, none⟩) q c ∧ q ≤ 300 ∧ Hid ((s.take j).flatten.length = q) ∧ Hid (OwnB ws w2.heap.size g c (s.take j).flatten) ∧ Hid (Below w2.heap.size w2 ws)) (fun _ i _ => N - (intOf i).toNat)
  case atStart => exact ⟨0, 0, w2.heap.size, 0, Nat.zero_le _, rfl, rfl, by omega, rfl, HN0, below_one _ _⟩
  case round =>
    obtain ⟨j, q, g, c, hj, rfl, rfl, hq3, hq, hO, hb⟩ := hrel
    have hbz := hb.out.size
    by_cases hjN : j < N
    · obtain ⟨b', off', ra, rc, e, hcj0, hSj0⟩ := HF.out.at j (by rw [HFL.out]; exact hjN)
      cases e
      rw [frags_row s N j hjN] at hcj0 hSj0
      rw [HSH.out.row j hjN] at hcj0
      have hcj := cell_later hb.out hcj0
      have HSJ := Lib.hid (hSj0.below hb.out)
      have j0 : (0 : Int) ≤ (j : Int) := by omega
      have j1 : (j : Int) < (N : Int) := by omega
      have t : ((v : Int) != (v : Int)) = false := by simp
      clear hcj0 hSj0
      by_cases hjn : j < n
      · have d1 : decide ((j : Int) < (n : Int)) = true := decide_eq_true (by omega)
        have d2 : decide (j < n) = true := decide_eq_true (by omega)
        have HFS := Lib.hid (flat_snoc s j (by rw [HSH.out.len]; exact hjn))
        have HRL : Hid ((frag s j).length = v) := HSH.out.row j hjN
        have HEQ : Hid ((s.take (j + 1)).flatten = (s.take j).flatten ++ frag s j) := by show _ = _; rw [HFS.out, HSH.out.fst j hjn]
        have hqn : q + v ≤ 300 := by
          have h1 := flat_take_le s (j + 1)
          rw [HEQ.out, List.length_append, hq.out, HRL.out, HSH.out.flen] at h1
          omega
        go_wp2_with (at_builtin; refine wpList_appN rfl (.tmp 65) (.tmp 69) rfl w2.heap.size g c (s.take j).flatten (frag s j) q v hq.out HRL.out rfl hO.out _ _ rfl HSJ.out (by omega) hbz ?_; intro g3 c3 w3 hO3 hC3 hat3)
        rw [← HEQ.out] at hO3
        have hg := hO.out.lt.1
        go_round
        case rel => exact ⟨j + 1, q + v, g3, c3, by omega, by go_num, rfl, hqn, by show _ = _; rw [HEQ.out, List.length_append, hq.out, HRL.out], hO3, hC3.below hb.out hbz (by simp; exact hg)⟩
        case measure => simp [intOf]; omega
      · have d1 : decide ((j : Int) < (n : Int)) = false := decide_eq_false (by omega)
        have d2 : decide (j < n) = false := decide_eq_false (by omega)
        have HEQ : Hid (s.take (j + 1) = s.take j) := by show _ = _; rw [List.take_of_length_le (by rw [HSH.out.len]; omega), List.take_of_length_le (by rw [HSH.out.len]; omega)]
        go_wp2
        go_round
        case rel => exact ⟨j + 1, q, g, c, by omega, by go_num, rfl, hq3, by show _ = _; rw [HEQ.out]; exact hq.out, by show OwnB _ _ _ _ _; rw [HEQ.out]; exact hO.out, hb⟩
        case measure => simp [intOf]; omega
    · obtain rfl : j = N := by omega
      have HEQ : Hid (s.take j = s) := List.take_of_length_le (by rw [HSH.out.len]; omega)
      rw [HEQ.out] at hO hq
      have hqT : q = T := by rw [← hq.out]; exact HSH.out.flen
      subst hqT
      have hlq : l ≤ q := by omega
      have hcq : q ≤ c := by have := hO.out.cap_le.1; rw [hq.out] at this; exact this
      have hst1 : ∀ d, (convert 22 9 (.slice (some ⟨g, 0, none⟩) l c)).run Try.prog (wr.drewN d) = .ok (.string (strB ps)) (wr.drewN d) := fun d => by
        have h1 := (hO.out.seenAt.take l).drewN d
        rw [HSH.out.tk] at h1
        exact str_at h1 HL.out
      have hst2 : ∀ d, (convert 22 9 (.slice a2 l cap2)).run Try.prog (wr.drewN d) = .ok (.string (strB ps)) (wr.drewN d) := fun d => str_at ((HS2.out.below hb.out).drewN d) HL.out
      have hsl := slice_to g 0 q c l (by omega)
      have hsl' := slice_to' g 0 q c l (by omega)
      have e1 : decide ((q : Int) < (l : Int)) = false := decide_eq_false (by omega)
      have e1' : decide (q < l) = false := decide_eq_false (by omega)
      have e2 : decide ((l : Int) + (n : Int) ≤ (q : Int)) = false := decide_eq_false (by omega)
      have e2' : decide (l + n ≤ q) = false := decide_eq_false (by omega)
      generalize strB ps = st at *
      go_upto_region 16 with fail
      go_cut [94] (fun sl wx => sl = .bool false ∧ ∃ d, wx = wr.drewN d)
      case first =>
        go_quiet (fail)
        go_wp2_with fail
        go_meet
        exact ⟨rfl, _, rfl⟩
      case rest =>
      obtain ⟨rfl, d, rfl⟩ := hcut
      clear hst1 hst2 hsl hsl' e1 e1' e2 e2'
      have HO5 := Lib.hid (hO.out.drewN d)
      have HB5 := Lib.hid (HB2.out.trans ((hb.out.trans ((below_drewN wr d).mono hb.out.size)).mono HB2.out.size))
      generalize wr.drewN d = w5 at *
      clear hO hb hbz
      go_wp2
      go_loop [14] (fun i => ∃ x : Nat, l ≤ x ∧ x ≤ q ∧ i = .int .i64 x) (fun i => q - (intOf i).toNat)
      case atStart => exact ⟨l, by omega, by omega, rfl⟩
      case round =>
        obtain ⟨x, hx0, hx1, rfl⟩ := hrel
        by_cases hxq : x < q
        · have hcx := HO5.out.cell x (by rw [hq.out]; exact hxq)
          rw [HSH.out.zero x hx0] at hcx
          have x0 : (0 : Int) ≤ (x : Int) := by omega
          have x1 : (x : Int) < (q : Int) := by omega
          go_wp2
          go_round
          case rel => exact ⟨x + 1, by omega, by omega, by go_num⟩
          case measure => simp [intOf]; omega
        · obtain rfl : x = q := by omega
          go_wp2_with fail
          refine (awake6 _).mono ?_
          rintro e w6 ⟨rfl, hb6⟩
          have HB6 := Lib.hid (HB5.out.trans (hb6.mono HB5.out.size))
          go_wp2
          go_ret
          exact ⟨rfl, HB6.out⟩

end Go.Proofs.Ytjefjlalebpodaa
