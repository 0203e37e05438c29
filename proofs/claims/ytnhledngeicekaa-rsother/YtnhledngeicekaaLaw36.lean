/-
  The walk of the law RsOther.
-/
import Derived.Test.YtnhledngeicekaaSameNo
namespace Go.Proofs.Ytnhledngeicekaa
open Go.RowKit

/-- While the list is made: fragments of s from position p0 on. -/
structure Lst (w0 ws : World) (g cap i p0 : Nat) (s : List (List Nat)) (fs : List Fr) : Prop where
  own : OldF w0 ws (.slice (some ⟨g, 0, none⟩) i cap) fs
  len : fs.length = i
  el : ∀ q, q < i → (fs.getD q fr0).pos = ((p0 + q : Nat) : Int) ∧ (fs.getD q fr0).data = frag s (p0 + q)

theorem Lst.frozen {w0 ws w' : World} {g cap i p0 : Nat} {s : List (List Nat)} {fs : List Fr} (h : Lst w0 ws g cap i p0 s fs) (hb : Below ws.heap.size ws w') (k : Nat) : w'.frozen? ⟨g, k, none⟩ = false := by
  have o := (h.own.below hb).own
  rw [h.len] at o
  exact World.ownsRow.frozenAt o k

theorem nodup_from (fs : List Fr) (l p0 : Nat) (hl : fs.length = l) (h : ∀ q, q < l → (fs.getD q fr0).pos = ((p0 + q : Nat) : Int)) : (poss fs).Nodup := by
  unfold List.Nodup
  rw [List.pairwise_iff_getElem]
  intro i j hi hj hij
  have hli : i < fs.length := by simpa [poss] using hi
  have hlj : j < fs.length := by simpa [poss] using hj
  have e1 := h i (by omega)
  have e2 := h j (by omega)
  rw [List.getD_eq_getElem?_getD, List.getElem?_eq_getElem hli] at e1
  rw [List.getD_eq_getElem?_getD, List.getElem?_eq_getElem hlj] at e2
  have e1' : fs[i].pos = ((p0 + i : Nat) : Int) := e1
  have e2' : fs[j].pos = ((p0 + j : Nat) : Int) := e2
  have g1 : (poss fs)[i] = fs[i].pos := by simp [poss]
  have g2 : (poss fs)[j] = fs[j].pos := by simp [poss]
  rw [g1, g2, e1', e2']
  omega

/-- The list with one fragment's bytes put anew. -/
theorem other_list {w2 wl w4 : World} {g cap l p0 c gb cb : Nat} {s : List (List Nat)} {fs : List Fr} {bad : List Nat} (hL : Lst w2 wl g cap l p0 s fs) (hbl : Below w2.heap.size w2 wl) (hb4 : Below wl.heap.size wl w4) (hO4 : OwnB w4 wl.heap.size gb cb bad) (hc : c < l) :
    FrsAt (w4.setCell ⟨g, c * 2 + 1, none⟩ (.slice (some ⟨gb, 0, none⟩) bad.length cb)) (some ⟨g, 0, none⟩) cap (fs.set c ⟨(fs.getD c fr0).pos, some ⟨gb, 0, none⟩, cb, bad⟩) ∧ Below w2.heap.size w2 (w4.setCell ⟨g, c * 2 + 1, none⟩ (.slice (some ⟨gb, 0, none⟩) bad.length cb)) := by
  have hg := hL.own.lt g rfl
  have o4 := hL.own.below hb4
  have hcl : c < fs.length := by rw [hL.len]; exact hc
  have own4 := o4.own
  rw [hL.len] at own4
  have st := World.ownsRow.stored own4 (c * 2 + 1) (.slice (some ⟨gb, 0, none⟩) bad.length cb)
  have hfv := fvals_set fs c ⟨(fs.getD c fr0).pos, some ⟨gb, 0, none⟩, cb, bad⟩ hcl rfl
  have hfv' : (fvals fs).set (c * 2 + 1) (.slice (some ⟨gb, 0, none⟩) bad.length cb) = fvals (fs.set c ⟨(fs.getD c fr0).pos, some ⟨gb, 0, none⟩, cb, bad⟩) := hfv
  rw [hfv'] at st
  have hw5 : Below w2.heap.size w2 (w4.setCell ⟨g, c * 2 + 1, none⟩ (.slice (some ⟨gb, 0, none⟩) bad.length cb)) := (hbl.trans (hb4.mono hbl.size)).setCell hg.1 _
  have hgb := hO4.lt.1
  refine ⟨frs_of (by rw [List.length_set, hL.len]) st.1 (fun f hf => ?_) (fun f hf => ?_), hw5⟩
  · rcases List.mem_or_eq_of_mem_set hf with hf | rfl
    · exact (hL.own.seen f hf).below hw5
    · exact (hO4.chg (Chg.of_grown st.2) (by simp; omega)).seenAt
  · rcases List.mem_or_eq_of_mem_set hf with hf | rfl
    · exact hL.own.wf f hf
    · have := hL.own.wf _ (getD_mem fs c fr0 hcl)
      exact this

/-- Whatever lies behind that list is not s. -/
theorem other_not {n l p0 c k0 gb cb aa turn : Nat} {s S : List (List Nat)} {fs : List Fr} {w : World} {a : Option Addr} {cap : Nat} (hlen : fs.length = l) (hel : ∀ q, q < l → (fs.getD q fr0).pos = ((p0 + q : Nat) : Int) ∧ (fs.getD q fr0).data = frag s (p0 + q))
    (hl1 : 1 ≤ l) (hp0 : p0 + l ≤ n) (hc : c < l) (hk0 : (s.getD 0 []).length = k0) (haa : aa < k0) (ht : turn ≠ 0)
    (hF : FrsAt w a cap (fs.set c ⟨(fs.getD c fr0).pos, some ⟨gb, 0, none⟩, cb, (frag s (p0 + c)).set aa ((frag s (p0 + c)).getD aa 0 ^^^ turn)⟩)) :
    Good n (fs.set c ⟨(fs.getD c fr0).pos, some ⟨gb, 0, none⟩, cb, (frag s (p0 + c)).set aa ((frag s (p0 + c)).getD aa 0 ^^^ turn)⟩) ∧
    firsts (fs.set c ⟨(fs.getD c fr0).pos, some ⟨gb, 0, none⟩, cb, (frag s (p0 + c)).set aa ((frag s (p0 + c)).getD aa 0 ^^^ turn)⟩) = fs.set c ⟨(fs.getD c fr0).pos, some ⟨gb, 0, none⟩, cb, (frag s (p0 + c)).set aa ((frag s (p0 + c)).getD aa 0 ^^^ turn)⟩ ∧
    (Behind l n (fs.set c ⟨(fs.getD c fr0).pos, some ⟨gb, 0, none⟩, cb, (frag s (p0 + c)).set aa ((frag s (p0 + c)).getD aa 0 ^^^ turn)⟩) S → S ≠ s) := by
  have hfl : ∀ p, (frag s p).length = k0 := fun p => by rw [frag_len, hk0]
  generalize hfb : (⟨(fs.getD c fr0).pos, some ⟨gb, 0, none⟩, cb, (frag s (p0 + c)).set aa ((frag s (p0 + c)).getD aa 0 ^^^ turn)⟩ : Fr) = fb at *
  have hfp : fb.pos = ((p0 + c : Nat) : Int) := by rw [← hfb]; exact (hel c hc).1
  have hfd : fb.data.length = k0 := by rw [← hfb]; show ((frag s (p0 + c)).set aa _).length = k0; rw [List.length_set]; exact hfl _
  have hlen' : (fs.set c fb).length = l := by rw [List.length_set, hlen]
  have hpos : ∀ q, q < l → ((fs.set c fb).getD q fr0).pos = ((p0 + q : Nat) : Int) := fun q hq => by
    by_cases e : q = c
    · subst e; rw [getD_set_eq _ _ _ _ (by omega)]; exact hfp
    · rw [getD_set_ne _ _ _ _ _ e]; exact (hel q hq).1
  have hdat : ∀ q, q < l → ((fs.set c fb).getD q fr0).data.length = k0 := fun q hq => by
    by_cases e : q = c
    · subst e; rw [getD_set_eq _ _ _ _ (by omega)]; exact hfd
    · rw [getD_set_ne _ _ _ _ _ e, (hel q hq).2]; exact hfl _
  have hg : Good n (fs.set c fb) := fun i hi => by
    rw [hlen'] at hi
    refine ⟨?_, by rw [hdat i hi, hdat 0 (by omega)]⟩
    rw [hpos i hi]
    omega
  have hself := firsts_self (fs.set c fb) (nodup_from _ l p0 hlen' hpos)
  refine ⟨hg, hself, fun hB e => ?_⟩
  subst e
  have hch := chosen_of (k := l) hg (by rw [hself, hlen']; exact Nat.le_refl _)
  rw [hself, List.take_of_length_le (by omega)] at hch
  have hfr := hB.frag hch (by omega) (hch.by hF hlen') c hc
  rw [getD_set_eq _ _ _ _ (by omega), hfp] at hfr
  have hfr' : frag S (p0 + c) = fb.data := hfr
  rw [← hfb] at hfr'
  have h1 := congrArg (fun r => r.getD aa 0) hfr'
  have h2 : (frag S (p0 + c)).getD aa 0 = (frag S (p0 + c)).getD aa 0 ^^^ turn := by
    have h3 : (frag S (p0 + c)).getD aa 0 = ((frag S (p0 + c)).set aa ((frag S (p0 + c)).getD aa 0 ^^^ turn)).getD aa 0 := h1
    rw [getD_set_eq _ _ _ _ (by rw [hfl]; exact haa)] at h3
    exact h3
  generalize (frag S (p0 + c)).getD aa 0 = x at h2
  have h4 : x ^^^ x = x ^^^ (x ^^^ turn) := by rw [← h2]
  rw [Nat.xor_self, ← Nat.xor_assoc, Nat.xor_self, Nat.zero_xor] at h4
  exact ht h4.symm


set_option maxRecDepth 100000 in
set_option maxHeartbeats 8000000 in
theorem rsOther_walk (a0 : Option Addr) (len0 cap0 : Nat) (m0 : List (List Nat)) (a1 a2 a3 a4 : Int) (w : World) (w0 : m0.length = len0 ∧ GridAt w a0 cap0 m0) (w1 : (Lit.int .u8 a1).wf = true) (w2 : (Lit.int .u8 a2).wf = true) (w3 : (Lit.int .u8 a3).wf = true) (w4 : (Lit.int .u8 a4).wf = true) :
    Calls Try.prog 8 #[.slice a0 len0 cap0, .int .u8 a1, .int .u8 a2, .int .u8 a3, .int .u8 a4] w fun e w' => e = .returned (.bool true) ∧ Below w.heap.size w w' := by
  obtain ⟨mm, hmm, rfl⟩ := byte_of w1
  obtain ⟨who, hwho, rfl⟩ := byte_of w2
  obtain ⟨att, hatt, rfl⟩ := byte_of w3
  obtain ⟨turn, hturn, rfl⟩ := byte_of w4
  have HCT := Lib.hid (cut3_any a0 cap0 len0 5 m0 w w0.2 w0.1 (by omega))
  have hsl := cutM_le m0 5
  have HWD := Lib.hid (cutM_row m0 5 0)
  clear w0 w1 w2 w3 w4
  generalize cutM m0 5 = s at *
  obtain ⟨l, hl⟩ : ∃ l, s.length = l := ⟨_, rfl⟩
  rw [hl] at HCT hsl
  have HL := Lib.hid hl
  clear hl
  have HNZ : Hid ((mm : Int) % 5 = ((mm % 5 : Nat) : Int)) := by show _ = _; omega
  have hm9 : mm % 5 ≤ 4 := by omega
  go_enter Try.func8, Try.ntmps8
  go_wp2_with fail
  refine HCT.out.mono ?_
  rintro e w1 ⟨_, a, cap, rfl, hS, hb1⟩
  have HS1 := Lib.hid hS
  have HB1 := Lib.hid hb1
  clear hS hb1
  go_wp2_with fail
  rw [HNZ.out]
  clear HNZ
  generalize mm % 5 = m' at *
  by_cases hl1 : 1 ≤ l
  · obtain ⟨n, hn⟩ : ∃ n, l + m' = n := ⟨_, rfl⟩
    have hn2 : n ≤ 255 := by omega
    have HEN := Lib.hid (fun w => fun h => enc_any m' a cap l n s w h HL.out hl1 hn hn2 (by have := HWD.out; omega))
    have t : ((n : Int) != (l : Int) + (m' : Int)) = false := by simp; omega
    have hln : l ≤ n := by omega
    have hnl : l + m' ≤ n := by omega
    have hnl2 : n ≤ l + m' := by omega
    clear hn
    refine (HEN.out _ HS1.out).mono ?_
    rintro e w2 (⟨hne, rfl, hb2⟩ | ⟨hev, hfl, aF, cF, rfl, hF, hb2⟩)
    · have HB2 := Lib.hid (HB1.out.trans (hb2.mono HB1.out.size))
      clear hne hb2 t
      go_wp2_with fail
      refine (awake3 _).mono ?_
      rintro e w4 ⟨rfl, hb4⟩
      have HB4 := Lib.hid (HB2.out.trans (hb4.mono HB2.out.size))
      go_wp2
      go_ret
      exact ⟨rfl, HB4.out⟩
    · have HB2 := Lib.hid (HB1.out.trans (hb2.mono HB1.out.size))
      have HS2 := Lib.hid (HS1.out.below hb2)
      have HE := Lib.hid hev
      have HBY := Lib.hid HS1.out.by
      have HF := Lib.hid hF
      have HFL := Lib.hid hfl
      obtain ⟨bF, offF, _, _, e, _, _⟩ := hF.at 0 (by rw [hfl]; omega)
      subst e
      obtain ⟨bS, offS, rs0, rsc0, e, hs0, _⟩ := HS2.out.at 0 (by rw [HL.out]; omega)
      subst e
      rw [Nat.add_zero] at hs0
      have l0 : (0 : Int) < (l : Int) := by omega
      obtain ⟨k0, hk0⟩ : ∃ k0, (s.getD 0 []).length = k0 := ⟨_, rfl⟩
      have HK0 := Lib.hid hk0
      have hk20 : k0 ≤ 20 := by have := HWD.out; omega
      rw [hk0] at hs0
      clear hev hF hfl hb2 hk0
      by_cases hz : k0 = 0
      · have t0 : ((k0 : Int) == 0) = true := by simp; omega
        clear t
        go_wp2_with fail
        refine (awake3 _).mono ?_
        rintro e w4 ⟨rfl, hb4⟩
        have HB4 := Lib.hid (HB2.out.trans (hb4.mono HB2.out.size))
        go_wp2
        go_ret
        exact ⟨rfl, HB4.out⟩
      · have t0 : ((k0 : Int) == 0) = false := by simp; omega
        by_cases hzt : turn = 0
        · have t2 : ((turn : Int) == 0) = true := by simp; omega
          clear t
          go_wp2_with fail
          refine (awake3 _).mono ?_
          rintro e w4 ⟨rfl, hb4⟩
          have HB4 := Lib.hid (HB2.out.trans (hb4.mono HB2.out.size))
          go_wp2
          go_ret
          exact ⟨rfl, HB4.out⟩
        · have t2 : ((turn : Int) == 0) = false := by simp; omega
          obtain ⟨p0, hp0⟩ : ∃ p0, who % (m' + 1) = p0 := ⟨_, rfl⟩
          have hpm : p0 ≤ m' := by have := Nat.mod_lt who (show 0 < m' + 1 by omega); omega
          have hpe : (who : Int) % ((m' : Int) + 1) = (p0 : Int) := by rw [← hp0]; push_cast; rfl
          have HST : Hid (Lst w2 (w2.alloc (.cells #[] 38)) w2.heap.size 0 0 p0 s []) := ⟨oldF_none w2 w2 (Nat.le_refl _), rfl, fun q hq => by omega⟩
          clear hp0
          go_upto_region 12 with fail
          rw [hpe]
          clear hpe t t0 t2 hs0
          go_loopw [15, 17] (fun t i ws => ∃ (j g cp : Nat) (fs : List Fr), j ≤ l ∧ i = .int .i64 j ∧ t = .slice (some ⟨g, 0, none⟩) j cp ∧ Hid (Lst w2 ws g cp j p0 s fs) ∧ Hid (Below w2.heap.size w2 ws)) (fun _ i _ => l - (intOf i).toNat)
          case atStart => exact ⟨0, _, _, _, Nat.zero_le _, rfl, rfl, HST, below_one _ _⟩
          case round =>
            obtain ⟨j, g, cp, fs, hj, rfl, rfl, hR, hb⟩ := hrel
            have hbz := hb.out.size
            by_cases hlt : j < l
            · obtain ⟨b', off', ra, rc, e, hcj0, hSj0⟩ := HF.out.at (p0 + j) (by rw [HFL.out]; omega)
              cases e
              rw [frags_row s n (p0 + j) (by omega)] at hcj0 hSj0
              have HSJ := Lib.hid hSj0
              have hcj := cell_later hb.out hcj0
              have hcj' := fun o => cell_later (below_one wr o) hcj
              have HFLL : Hid ((frag s (p0 + j)).length = k0) := by show _ = _; rw [frag_len, HK0.out]
              rw [HFLL.out] at hcj hcj'
              have HOL : Hid (∀ o, OldF w2 (wr.alloc o) (.slice (some ⟨g, 0, none⟩) j cp) fs) := fun o => hR.out.own.below (below_one _ _)
              have HBL : Hid (∀ o, Below w2.heap.size w2 (wr.alloc o)) := fun o => hb.out.alloc hbz o
              have HWF : Hid ((Lit.int .i64 ((p0 : Int) + (j : Int))).wf = true) := wf_sub (by omega) (by omega)
              have i0 : (0 : Int) ≤ (p0 : Int) + (j : Int) := by omega
              have i1 : (p0 : Int) + (j : Int) < (n : Int) := by omega
              clear hcj0 hSj0
              go_wp2_with (at_builtin; (refine wpList_appF (w0 := w2) rfl (.tmp 65) (.tmp 76) rfl (.slice (some ⟨g, 0, none⟩) j cp) fs j hR.out.len rfl (HOL.out _) ⟨(p0 : Int) + (j : Int), ra, rc, frag s (p0 + j)⟩ HSJ.out HWF.out _ _ rfl (cell_pair0 _ _ _ _ _ rfl) (by show _ = some (Value.slice ra (frag s (p0 + j)).length rc); rw [HFLL.out]; exact cell_pair1 _ _ _ _ _ rfl) (by omega) (by simp; omega) ?_; intro g2 c2 w3 hF2 hg2 hat2))
              have HBB := Lib.hid (below_grown (HOL.out _) (HBL.out _) hg2)
              have HLS : Hid (Lst w2 w3 g2 c2 (j + 1) p0 s (fs ++ [⟨(p0 : Int) + (j : Int), ra, rc, frag s (p0 + j)⟩])) := by
                refine ⟨hF2, by rw [List.length_append, hR.out.len]; rfl, fun q hq => ?_⟩
                by_cases e : q = j
                · have e1 := getD_app_eq fs (⟨(p0 : Int) + (j : Int), ra, rc, frag s (p0 + j)⟩ : Fr) fr0
                  rw [hR.out.len] at e1
                  rw [e, e1]
                  exact ⟨by push_cast; rfl, rfl⟩
                · rw [getD_app_lt _ _ _ _ (by rw [hR.out.len]; omega)]
                  exact hR.out.el q (by omega)
              go_round
              case rel => exact ⟨j + 1, g2, c2, _, by omega, by go_num, rfl, HLS, HBB⟩
              case measure => simp [intOf]; omega
            · obtain rfl : j = l := by omega
              obtain ⟨c, hc⟩ : ∃ c, who % j = c := ⟨_, rfl⟩
              have hcl : c < j := by rw [← hc]; exact Nat.mod_lt who (by omega)
              have hce : (who : Int) % (j : Int) = (c : Int) := by rw [← hc]; push_cast; rfl
              obtain ⟨aa, ha⟩ : ∃ aa, att % k0 = aa := ⟨_, rfl⟩
              have hal : aa < k0 := by rw [← ha]; exact Nat.mod_lt att (by omega)
              have hae : (att : Int) % (k0 : Int) = (aa : Int) := by rw [← ha]; push_cast; rfl
              have HCE := Lib.hid hce
              have HAE := Lib.hid hae
              clear hc ha
              obtain ⟨_, hFR⟩ := hR.out.own.frs hb.out
              obtain ⟨b', off', e, hd0, hd1, hSc⟩ := hFR.el c (by rw [hR.out.len]; exact hcl)
              cases e
              rw [Nat.zero_add] at hd0 hd1
              have HEC := Lib.hid (hR.out.el c hcl)
              have HDL : Hid ((fs.getD c fr0).data.length = k0) := by show _ = _; rw [HEC.out.2, frag_len, HK0.out]
              rw [HDL.out] at hd1
              have hd1' := fun o => cell_later (below_one wr o) hd1
              have HSC := Lib.hid hSc
              have hgl := (hR.out.own.lt g rfl).2
              have HN := Lib.hid (ownB_lit wr wr.heap.size [] #[] rfl bytes_nil (Nat.le_refl _) (by unfold maxLen; simp))
              have c0 : (0 : Int) ≤ (c : Int) := by omega
              have c1 : (c : Int) < (j : Int) := by omega
              have HFSC := Lib.hid (Eq.refl (fs.getD c fr0))
              clear hFR hd0 hSc
              obtain ⟨dd, hdd⟩ : ∃ dd, (fs.getD c fr0).data = dd := ⟨_, rfl⟩
              rw [hdd] at HDL HSC
              have HDD : Hid (dd = frag s (p0 + c)) := by show _ = _; rw [← hdd]; exact HEC.out.2
              generalize (fs.getD c fr0).loc = lc at *
              generalize (fs.getD c fr0).cap = lcc at *
              clear hdd
              have hkm : k0 ≤ 1000 := by omega
              go_wp2_with (at_builtin; (refine wpList_appN rfl (.tmp 78) (.tmp 86) rfl wr.heap.size wr.heap.size 0 [] dd 0 k0 rfl HDL.out rfl HN.out _ _ rfl (HSC.out.below (below_one _ _)) (by omega) (by simp) ?_; intro gb cb w3 hB3 hC3 hat3; rw [List.nil_append] at hB3; have HB3 := Lib.hid hB3; have HBW := Lib.hid (hC3.below (below_one wr _) (by simp) (by simp)); have hca := hB3.cell aa (by rw [HDL.out]; exact hal); have hfa := hB3.frozen aa; have hxb := bytes_get dd aa hB3.byte; have hxx := u8_xor_nat (dd.getD aa 0) turn hxb hturn; have hcg := cell_later HBW.out hd1; have hfg := hR.out.frozen HBW.out (c * 2 + 1); have hgg : g ≠ gb := (by have := hB3.lt.1; omega); have hgg' : gb ≠ g := (fun e => hgg e.symm); have a0' : (0 : Int) ≤ (aa : Int) := (by omega); have a1' : (aa : Int) < (k0 : Int) := (by omega); clear hB3 hC3 hat3; generalize hxg : dd.getD aa 0 = x at *; have HXG := Lib.hid hxg; clear hxg))
              have HO4 := Lib.hid (HB3.out.stored aa (x ^^^ turn) (Gf.x_lt _ _ hxb hturn))
              have hgb3 := HB3.out.lt.1
              have HB4 := Lib.hid (HBW.out.setCell (p := ⟨gb, aa, none⟩) hgb3 (.int .u8 ((x ^^^ turn : Nat) : Int)))
              have hol := other_list (c := c) hR.out hb.out HB4.out HO4.out.1 hcl
              rw [List.length_set, HDL.out, ← HXG.out, HDD.out] at hol
              have hnot := fun T => other_not (n := n) (S := T) (w := _) (a := _) (cap := _) hR.out.len hR.out.el (by omega) (by omega) hcl HK0.out hal hzt hol.1
              rw [HDD.out] at HXG
              have HLE : Hid ((fs.set c ⟨(fs.getD c fr0).pos, some ⟨gb, 0, none⟩, cb, (frag s (p0 + c)).set aa ((frag s (p0 + c)).getD aa 0 ^^^ turn)⟩).length = j) := by show _ = _; rw [List.length_set]; exact hR.out.len
              rw [HXG.out] at hol hnot HLE
              have HNO := Lib.hid hnot
              have HF5 := Lib.hid hol.1
              have HB5 := Lib.hid hol.2
              have HG0 : Hid (((fs.set c ⟨(fs.getD c fr0).pos, some ⟨gb, 0, none⟩, cb, (frag s (p0 + c)).set aa (x ^^^ turn)⟩).getD 0 fr0).data.length ≤ 20) := by
                have h1 := (HNO.out []).1 0 (by rw [HLE.out]; omega)
                show _ ≤ _
                have h2 := (HNO.out []).1 c (by rw [HLE.out]; exact hcl)
                rw [← h2.2, getD_set_eq _ _ _ _ (by rw [hR.out.len]; exact hcl)]
                show ((frag s (p0 + c)).set aa (x ^^^ turn)).length ≤ 20
                rw [List.length_set, frag_len, HK0.out]
                exact hk20
              generalize (fs.set c ⟨(fs.getD c fr0).pos, some ⟨gb, 0, none⟩, cb, (frag s (p0 + c)).set aa (x ^^^ turn)⟩) = fs' at *
              have HS5 := Lib.hid (HS2.out.below HB5.out)
              clear hol hnot hca hfa hxx hcg hfg hd1 hd1' hxb
              generalize ((w3.setCell ⟨gb, aa, none⟩ (.int .u8 ((x ^^^ turn : Nat) : Int))).setCell ⟨g, c * 2 + 1, none⟩ (.slice (some ⟨gb, 0, none⟩) k0 cb)) = w5 at *
              refine (dec_any _ _ j j m' n fs' _ HF5.out HLE.out (by omega) (by omega) (by omega) hn2 (by have := HG0.out; omega)).mono ?_
              rintro e w6 ⟨hb6, ⟨hg, _⟩ | ⟨_, hf, _⟩ | ⟨_, _, T, aT, cT, rfl, hT, hTl, hBe⟩⟩
              · exact absurd (HNO.out []).1 hg
              · rw [(HNO.out []).2.1, HLE.out] at hf; omega
              rw [(HNO.out T).2.1, List.take_of_length_le (by rw [HLE.out]; omega)] at hBe
              have HNT := Lib.hid ((HNO.out T).2.2 hBe)
              have HT6 := Lib.hid hT
              have HTL := Lib.hid hTl
              have HS6 := Lib.hid (HS5.out.below hb6)
              have HB6 := Lib.hid (HB2.out.trans ((HB5.out.trans (hb6.mono HB5.out.size)).mono HB2.out.size))
              clear hT hTl hBe hb6
              go_wp2_with fail
              refine (awake3 _).mono ?_
              rintro e w7 ⟨rfl, hb7⟩
              have HT7 := Lib.hid (HT6.out.below hb7)
              have HS7 := Lib.hid (HS6.out.below hb7)
              have HB7 := Lib.hid (HB6.out.trans (hb7.mono HB6.out.size))
              clear hb7
              go_wp2_with fail
              refine (same_no _ _ _ _ j T s _ HT7.out HS7.out HTL.out HL.out HNT.out).mono ?_
              rintro e w8 ⟨rfl, hb8⟩
              have HB8 := Lib.hid (HB7.out.trans (hb8.mono HB7.out.size))
              go_wp2
              go_ret
              exact ⟨rfl, HB8.out⟩
  · obtain rfl : l = 0 := by omega
    refine (enc_no (m' : Int) a cap 0 _ (by omega) (by rintro ⟨h, _⟩; omega)).mono ?_
    rintro e w' ⟨rfl, rfl⟩
    have HB2 := HB1
    go_wp2_with fail
    refine (awake3 _).mono ?_
    rintro e w4 ⟨rfl, hb4⟩
    have HB4 := Lib.hid (HB2.out.trans (hb4.mono HB2.out.size))
    go_wp2
    go_ret
    exact ⟨rfl, HB4.out⟩

end Go.Proofs.Ytnhledngeicekaa
