/-
  The walk of the law RsAny.
-/
import Derived.Test.YtnhledngeicekaaAnyMem
namespace Go.Proofs.Ytnhledngeicekaa
open Go.RowKit

/-- An append in a plain region, by what it runs to. -/
theorem wpList_run_append {ops : Array Oper} {rest : List Oper} {o : Oper} {a : Act} {Q : Exit → Act → World → Prop} {w : World} (hgd : o.guard = none) (s x : Operand) (t : TypeId)
    (ho : o.op = .call { callee := .builtin .append, args := #[s, x], argTypes := #[t, t] }) (sv xv v : Value) (w' : World) (hs : a.eval s = sv) (hx : a.eval x = xv) (hrun : (Builtin.append_ #[t, t] o.type #[sv, xv]).run Try.prog w = .ok v w') (h : wpList Try.prog ops Q rest (a.put o.dst v) w') :
    wpList Try.prog ops Q (o :: rest) a w := by
  refine wpList_plain hgd fun K hK => ?_
  unfold Oper.wp execOp
  simp only [ho, resolve, invoke, builtin, Sem.run_bind, Sem.run_pure, Result.andThen_ok, List.map_toArray, List.map_cons, List.map_nil, hs, hx, hrun]
  exact hK _ _ h

/-- While fragments are picked: xs are the positions that are left, fs the list so far. -/
structure PickA (w2 ws : World) (gL cL g cp N i k0 : Nat) (s : List (List Nat)) (xs : List Nat) (fs : List Fr) : Prop where
  left : OwnI ws w2.heap.size gL cL xs
  list : OldF w2 ws (.slice (some ⟨g, 0, none⟩) i cp) fs
  flen : fs.length = i
  xnd : xs.Nodup
  xlt : ∀ x ∈ xs, x < N
  el : ∀ f ∈ fs, ∃ p, p < N ∧ f.pos = ((p : Nat) : Int) ∧ p ∉ xs ∧ f.data = frag s p
  nd : (poss fs).Nodup

theorem PickA.ne {w2 ws : World} {gL cL g cp N i k0 : Nat} {s : List (List Nat)} {xs : List Nat} {fs : List Fr} (h : PickA w2 ws gL cL g cp N i k0 s xs fs) : gL ≠ g := by
  have o := h.list.own
  rw [h.flen] at o
  exact owns_ne h.left o (by decide)

/-- One is taken out. -/
def outOf (xs : List Nat) (t : Nat) : List Nat := xs.take t ++ xs.drop (t + 1)
theorem outOf_mem {xs : List Nat} {t x : Nat} (h : x ∈ outOf xs t) : x ∈ xs := by
  rcases List.mem_append.mp h with h | h
  · exact List.mem_of_mem_take h
  · exact List.mem_of_mem_drop h
theorem outOf_nodup {xs : List Nat} (t : Nat) (h : xs.Nodup) : (outOf xs t).Nodup :=
  h.sublist (by
    have : outOf xs t = xs.eraseIdx t := (List.eraseIdx_eq_take_drop_succ xs t).symm
    rw [this]
    exact List.eraseIdx_sublist xs t)
theorem outOf_not {xs : List Nat} {t : Nat} (h : xs.Nodup) (ht : t < xs.length) : xs.getD t 0 ∉ outOf xs t := by
  have e : xs = xs.take t ++ (xs.getD t 0 :: xs.drop (t + 1)) := by
    rw [List.getD_eq_getElem?_getD, List.getElem?_eq_getElem ht]
    show xs = xs.take t ++ (xs[t] :: xs.drop (t + 1))
    rw [← List.drop_eq_getElem_cons ht, List.take_append_drop]
  have h' := h
  rw [e, List.nodup_append] at h'
  intro hm
  rcases List.mem_append.mp hm with hm | hm
  · exact h'.2.2 _ hm _ (List.mem_cons_self ..) rfl
  · exact (List.nodup_cons.mp h'.2.1).1 hm

theorem PickA.step {w2 wr w4 w6 : World} {gL cL g cp N i k0 g' cp' g2 c2 t : Nat} {s : List (List Nat)} {xs : List Nat} {fs : List Fr} {f : Fr} (h : PickA w2 wr gL cL g cp N i k0 s xs fs) (ht : t < xs.length) (hf : f.pos = ((xs.getD t 0 : Nat) : Int)) (hd : f.data = frag s (xs.getD t 0))
    (hL4 : OldF w2 w4 (.slice (some ⟨g', 0, none⟩) (i + 1) cp') (fs ++ [f])) (hb6 : Below w4.heap.size w4 w6) (hI6 : OwnI w6 w2.heap.size g2 c2 (outOf xs t)) : PickA w2 w6 g2 c2 g' cp' N (i + 1) k0 s (outOf xs t) (fs ++ [f]) where
  left := hI6
  list := hL4.below hb6
  flen := by rw [List.length_append, h.flen]; rfl
  xnd := outOf_nodup t h.xnd
  xlt x hx := h.xlt x (outOf_mem hx)
  el e he := by
    rcases List.mem_append.mp he with he | he
    · obtain ⟨p, h1, h2, h3, h4⟩ := h.el e he
      exact ⟨p, h1, h2, fun hm => h3 (outOf_mem hm), h4⟩
    · rw [List.mem_singleton.mp he]
      exact ⟨_, h.xlt _ (getD_mem xs t 0 ht), hf, outOf_not h.xnd ht, hd⟩
  nd := by
    have e : poss (fs ++ [f]) = poss fs ++ [f.pos] := by simp [poss]
    rw [e, List.nodup_append]
    refine ⟨h.nd, by simp, fun a ha b hb => ?_⟩
    rw [List.mem_singleton.mp hb]
    rintro rfl
    obtain ⟨e2, he2, hp⟩ := List.mem_map.mp ha
    obtain ⟨p, _, h2, h3, _⟩ := h.el e2 he2
    have hp' : e2.pos = f.pos := hp
    rw [h2, hf] at hp'
    have : p = xs.getD t 0 := by omega
    rw [this] at h3
    exact h3 (getD_mem xs t 0 ht)

/-- What taking one out of the row runs to. -/
theorem any_out {W : World} {base gL cL r t : Nat} {xs : List Nat} (hI : OwnI W base gL cL xs) (hX : xs.length = r) (ht : t < r) (hr : r ≤ 1000) (hbase : base ≤ W.heap.size) :
    ∃ g1 c1 w5 g2 c2 w6, (Builtin.append_ #[35, 35] 35 #[.slice (some ⟨W.heap.size, 0, none⟩) 0 0, .slice (some ⟨gL, 0, none⟩) t cL]).run Try.prog (W.drew.alloc (.cells #[] 3)) = .ok (.slice (some ⟨g1, 0, none⟩) t c1) w5 ∧
      (Builtin.append_ #[35, 35] 35 #[.slice (some ⟨g1, 0, none⟩) t c1, .slice (if cL = t + 1 then some ⟨gL, 0, none⟩ else some ⟨gL, t + 1, none⟩) (r - (t + 1)) (cL - (t + 1))]).run Try.prog w5 = .ok (.slice (some ⟨g2, 0, none⟩) (t + (r - (t + 1))) c2) w6 ∧
      OwnI w6 base g2 c2 (outOf xs t) ∧ Below W.heap.size W w6 := by
  have hId : OwnI W.drew base gL cL xs := hI.chg (gs := []) (Chg.refl _ _).drew (by simp)
  have hI1 : OwnI (W.drew.alloc (.cells #[] 3)) base gL cL xs := hId.below (below_one _ _)
  have h0 := ownI_none W.drew base hbase
  have hlt := hI.lt.2
  obtain ⟨g1, c1, w5, hr1, hJ1, hC1, hat1⟩ := run_appI (W.drew.alloc (.cells #[] 3)) 35 base W.heap.size 0 0 t gL 0 cL [] (xs.take t) rfl (by rw [List.length_take]; omega) h0 (fun j hj => by
    rw [Nat.zero_add, hI1.cell j (by omega), List.getD_eq_getElem?_getD, List.getD_eq_getElem?_getD, List.getElem?_take_of_lt hj]) (by omega) (by simp; show _ ≤ W.heap.size + 1; omega)
  rw [Nat.zero_add] at hr1
  rw [List.nil_append] at hJ1
  have hI5 : OwnI w5 base gL cL xs := hI1.chg hC1 (by simp; omega)
  have hz5 := hC1.size
  have hz5' : W.heap.size + 1 ≤ w5.heap.size := by simpa using hz5
  have hsrc : ∀ j, j < r - (t + 1) → w5.cell? ⟨gL, t + 1 + j, none⟩ = some (.int .i64 (((xs.drop (t + 1)).getD j 0 : Nat) : Int)) := fun j hj => by
    rw [hI5.cell (t + 1 + j) (by omega), List.getD_eq_getElem?_getD, List.getD_eq_getElem?_getD, List.getElem?_drop]
  have hb5 : Below W.heap.size W w5 := hC1.below ((below_same (Below.refl W.heap.size W) (b := W.drew) rfl rfl rfl rfl).alloc (Nat.le_refl _) _) (by first | (simp; done) | (simp; show _ ≤ W.heap.size + 1; omega)) (by simp)
  have hg1 : W.heap.size ≤ g1 := by
    rcases hat1 with h | h
    · omega
    · have h' : W.heap.size + 1 ≤ g1 := by simpa using h
      omega
  by_cases hc : cL = t + 1
  · have hcl := hI.cap_le.1
    obtain ⟨g2, c2, w6, hr2, hJ2, hC2, _⟩ := run_appI w5 35 base g1 c1 t (r - (t + 1)) gL 0 (cL - (t + 1)) (xs.take t) (xs.drop (t + 1)) (by rw [List.length_take]; omega) (by rw [List.length_drop]; omega) hJ1 (fun j hj => by omega) (by omega) (by omega)
    exact ⟨g1, c1, w5, g2, c2, w6, hr1, by rw [if_pos hc]; exact hr2, hJ2, hC2.below hb5 (by omega) (by simp; exact hg1)⟩
  · obtain ⟨g2, c2, w6, hr2, hJ2, hC2, _⟩ := run_appI w5 35 base g1 c1 t (r - (t + 1)) gL (t + 1) (cL - (t + 1)) (xs.take t) (xs.drop (t + 1)) (by rw [List.length_take]; omega) (by rw [List.length_drop]; omega) hJ1 hsrc (by omega) (by omega)
    exact ⟨g1, c1, w5, g2, c2, w6, hr1, by rw [if_neg hc]; exact hr2, hJ2, hC2.below hb5 (by omega) (by simp; exact hg1)⟩

theorem outOf_len {xs : List Nat} {t r : Nat} (h : xs.length = r) (ht : t < r) : (outOf xs t).length = t + (r - (t + 1)) := by
  unfold outOf
  rw [List.length_append, List.length_take, List.length_drop]
  omega

/-- All are picked: what lies behind the list is s. -/
theorem any_good {w2 ws : World} {gL cL g cp N l k0 : Nat} {s : List (List Nat)} {xs : List Nat} {fs : List Fr} (h : PickA w2 ws gL cL g cp N l k0 s xs fs) (hl : 1 ≤ l) (hs : s.length = l) (es : Ev s) (bs : Mt.By s) (hk0 : (s.getD 0 []).length = k0) {a : Option Addr} {cap : Nat} (hF : FrsAt ws a cap fs) :
    Good N fs ∧ (firsts fs).length = l ∧ (fs.getD 0 fr0).data.length = k0 ∧ ∀ T, Behind l N ((firsts fs).take l) T → T = s := by
  have hlen : ∀ f ∈ fs, f.data.length = k0 := fun f hf => by
    obtain ⟨p, _, _, _, h4⟩ := h.el f hf
    rw [h4, frag_len, hk0]
  have h0 : (fs.getD 0 fr0).data.length = k0 := hlen _ (getD_mem fs 0 fr0 (by rw [h.flen]; omega))
  have hg : Good N fs := fun i hi => by
    have hm := getD_mem fs i fr0 hi
    obtain ⟨p, h1, h2, _, _⟩ := h.el _ hm
    exact ⟨by rw [h2]; omega, by rw [hlen _ hm, h0]⟩
  have hself := firsts_self fs h.nd
  refine ⟨hg, by rw [hself, h.flen], h0, fun T hB => ?_⟩
  have hch := chosen_of (k := l) hg (by rw [hself, h.flen]; exact Nat.le_refl _)
  rw [hself, List.take_of_length_le (by rw [h.flen]; exact Nat.le_refl _)] at hB hch
  rw [h0] at hch
  refine hB.only hch (by omega) (hch.by hF h.flen) hs (fun i hi => by rw [es i (by omega), hk0]) bs (fun i hi => ?_)
  obtain ⟨p, _, h2, _, h4⟩ := h.el _ (getD_mem fs i fr0 (by rw [h.flen]; exact hi))
  rw [h2, h4]
  rfl


set_option maxRecDepth 100000 in
set_option maxHeartbeats 16000000 in
theorem rsAny_walk (a0 : Option Addr) (len0 cap0 : Nat) (m0 : List (List Nat)) (a1 : Int) (a2 : Option Addr) (len2 cap2 : Nat) (m2 : List Nat) (w : World) (w0 : m0.length = len0 ∧ GridAt w a0 cap0 m0) (w1 : (Lit.int .u8 a1).wf = true) (w2 : m2.length = len2 ∧ SeenAt w a2 cap2 m2) :
    Calls Try.prog 5 #[.slice a0 len0 cap0, .int .u8 a1, .slice a2 len2 cap2] w fun e w' => e = .returned (.bool true) ∧ Below w.heap.size w w' := by
  obtain ⟨mm, hmm, rfl⟩ := byte_of w1
  have HCT := Lib.hid (cut3_any a0 cap0 len0 6 m0 w w0.2 w0.1 (by omega))
  have hsl := cutM_le m0 6
  have HWD := Lib.hid (cutM_row m0 6 0)
  have HOL := Lib.hid w2.1
  have HOS := Lib.hid w2.2
  have hlo := Nat.le_trans w2.2.le w2.2.max
  rw [w2.1] at hlo
  unfold maxLen at hlo
  clear w0 w1 w2
  generalize cutM m0 6 = s at *
  obtain ⟨l, hl⟩ : ∃ l, s.length = l := ⟨_, rfl⟩
  rw [hl] at HCT hsl
  have HL := Lib.hid hl
  clear hl
  have HNZ : Hid ((mm : Int) % 7 = ((mm % 7 : Nat) : Int)) := by show _ = _; omega
  have hm9 : mm % 7 ≤ 6 := by omega
  go_enter Try.func5, Try.ntmps5
  go_wp2_with fail
  refine HCT.out.mono ?_
  rintro e w1 ⟨_, a, cap, rfl, hS, hb1⟩
  have HS1 := Lib.hid hS
  have HB1 := Lib.hid hb1
  clear hS hb1
  go_wp2_with fail
  rw [HNZ.out]
  clear HNZ
  generalize mm % 7 = m' at *
  by_cases hl1 : 1 ≤ l
  · obtain ⟨n, hn⟩ : ∃ n, l + m' = n := ⟨_, rfl⟩
    have hn2 : n ≤ 255 := by omega
    have HEN := Lib.hid (fun w => fun h => enc_any m' a cap l n s w h HL.out hl1 hn hn2 (by have := HWD.out; omega))
    have tn : ((n : Int) != (l : Int) + (m' : Int)) = false := by simp; omega
    have hln : l ≤ n := by omega
    have hnl : l + m' ≤ n := by omega
    have hnl2 : n ≤ l + m' := by omega
    have HN := Lib.hid hn
    clear hn
    refine (HEN.out _ HS1.out).mono ?_
    rintro e w2 (⟨hne, rfl, hb2⟩ | ⟨hev, hfl, aF, cF, rfl, hF, hb2⟩)
    · have HB2 := Lib.hid (HB1.out.trans (hb2.mono HB1.out.size))
      have HS2 := Lib.hid (HS1.out.below hb2)
      have HEV := Lib.hid (fun w => fun h => even_loop false a cap l s w h HL.out hl1 ⟨fun e => by simp at e, fun e => absurd e hne⟩)
      have tl : ((l : Int) == 0) = false := by simp; omega
      clear hne hb2 tn
      go_wp2_with fail
      refine (awake3 _).mono ?_
      rintro e w4 ⟨rfl, hb4⟩
      have HB4 := Lib.hid (HB2.out.trans (hb4.mono HB2.out.size))
      have HS4 := Lib.hid (HS2.out.below hb4)
      clear hb4
      go_wp2_with fail
      refine (HEV.out _ HS4.out).mono ?_
      rintro e w5 ⟨rfl, d, rfl⟩
      go_wp2
      go_ret
      exact ⟨rfl, HB4.out.trans ((below_drewN _ _).mono HB4.out.size)⟩
    · have HB2 := Lib.hid (HB1.out.trans (hb2.mono HB1.out.size))
      have HS2 := Lib.hid (HS1.out.below hb2)
      have HE := Lib.hid hev
      have HBY := Lib.hid HS1.out.by
      have HF := Lib.hid hF
      have HFL := Lib.hid hfl
      have HOS2 := Lib.hid (HOS.out.below HB2.out)
      obtain ⟨bF, offF, _, _, e, _, _⟩ := hF.at 0 (by rw [hfl]; omega)
      subst e
      obtain ⟨k0, hk0⟩ : ∃ k0, (s.getD 0 []).length = k0 := ⟨_, rfl⟩
      have HK0 := Lib.hid hk0
      have hk20 : k0 ≤ 20 := by have := HWD.out; omega
      have HIN := Lib.hid (ownI_none w2 w2.heap.size (Nat.le_refl _))
      clear hev hF hfl hb2 hk0
      go_wp2
      clear tn
      go_loopw [11, 12] (fun t i ws => ∃ j g c : Nat, j ≤ n ∧ i = .int .i64 j ∧ t = .slice (some ⟨g, 0, none⟩) j c ∧ Hid (OwnI ws w2.heap.size g c (List.range j)) ∧ Hid (Below w2.heap.size w2 ws)) (fun _ i _ => n - (intOf i).toNat)
      case atStart => exact ⟨0, _, _, Nat.zero_le _, rfl, rfl, HIN, below_one _ _⟩
      case round =>
        obtain ⟨j, g, c, hj, rfl, rfl, hI, hb⟩ := hrel
        have hbz := hb.out.size
        by_cases hlt : j < n
        · have hlt' : (j : Int) < (l : Int) + (m' : Int) := by omega
          obtain ⟨g', c', w3, hrun, hI3, hC3, hat3⟩ := run_appI (wr.alloc (.cells #[.int .i64 (j : Int)] 3)) 35 w2.heap.size g c j 1 wr.heap.size 0 1 (List.range j) [j] (by simp) rfl (hI.out.below (below_one _ _)) (fun q hq => by obtain rfl : q = 0 := (by omega); exact cell_new' _ _ _ _ rfl) (by omega) (by simp; omega)
          have HI3 := Lib.hid hI3
          have HB3 := Lib.hid (hC3.below (hb.out.alloc hbz _) (by simp; omega) (by simp; exact hI.out.lt.1))
          have HRN := Lib.hid hrun
          clear hI3 hC3 hat3 hrun
          go_wp2_with (at_builtin; refine wpList_run_append rfl (.tmp 60) (.tmp 62) 35 rfl _ _ _ _ rfl rfl HRN.out ?_)
          go_round
          case rel => exact ⟨j + 1, g', c', by omega, by go_num, rfl, by rw [List.range_succ]; exact HI3, HB3⟩
          case measure => simp [intOf]; omega
        · obtain rfl : j = n := by omega
          have hlt' : ¬ (j : Int) < (l : Int) + (m' : Int) := by omega
          have HP0 : Hid (PickA w2 (wr.alloc (.cells #[] 38)) g c wr.heap.size 0 j 0 k0 s (List.range j) []) := ⟨hI.out.below (below_one _ _), oldF_none w2 wr hbz, rfl, List.nodup_range, fun x hx => List.mem_range.mp hx, by simp, by simp [poss]⟩
          have HB0 := Lib.hid (hb.out.alloc hbz (.cells #[] 38))
          clear hI hb hbz
          go_wp2
          go_loopw [11, 13, 14, 15] (fun s11 s13 i _ ws => ∃ (q gL cL r g cp : Nat) (xs : List Nat) (fs : List Fr), q ≤ l ∧ i = .int .i64 q ∧ s11 = .slice (some ⟨gL, 0, none⟩) r cL ∧ s13 = .slice (some ⟨g, 0, none⟩) q cp ∧ r + q ≤ j ∧ j ≤ r + q ∧ Hid (xs.length = r) ∧ Hid (PickA w2 ws gL cL g cp j q k0 s xs fs) ∧ Hid (Below w2.heap.size w2 ws)) (fun _ _ i _ _ => l - (intOf i).toNat)
          case atStart => exact ⟨0, _, _, _, _, _, _, _, Nat.zero_le _, rfl, rfl, rfl, by omega, by omega, by show _ = _; simp, HP0, HB0⟩
          case round =>
            clear HP0 HB0
            obtain ⟨q, gL, cL, r, gF, cp, xs, fs, hq, rfl, rfl, rfl, hr1, hr2, hX, hP, hb⟩ := hrel
            have hbz := hb.out.size
            by_cases hlq : q < l
            · have hr0 : 1 ≤ r := by omega
              have hcL := hP.out.left.cap_le.1
              have hcM := hP.out.left.cap_le.2
              rw [hX.out] at hcL
              unfold maxLen at hcM
              go_upto_region 18 with fail
              go_cut [73] (fun sl wx => (∃ b, sl = .bool b ∧ (b = true → q < len2)) ∧ wx = wr)
              case first =>
                by_cases hio : q < len2
                · have d1 : decide ((q : Int) < (len2 : Int)) = true := decide_eq_true (by omega)
                  have d2 : decide (q < len2) = true := decide_eq_true hio
                  go_wp2_with fail
                  go_meet
                  exact ⟨⟨_, rfl, fun _ => hio⟩, rfl⟩
                · have d1 : decide ((q : Int) < (len2 : Int)) = false := decide_eq_false (by omega)
                  have d2 : decide (q < len2) = false := decide_eq_false hio
                  go_wp2_with fail
                  go_meet
                  exact ⟨⟨_, rfl, fun e => by simp at e⟩, rfl⟩
              case rest =>
              obtain ⟨⟨bo, rfl, hbo⟩, rfl⟩ := hcut
              go_upto_if 73 with fail
              go_cut [15] (fun sl wx => (∃ t : Nat, t < r ∧ sl = .int .i64 (t : Int)) ∧ wx = wc)
              case first =>
                cases bo with
                | true =>
                  have hql := hbo rfl
                  clear hbo
                  obtain ⟨xb, xoff, e, hx0⟩ := HOS2.out.cell q (by rw [HOL.out]; exact hql)
                  subst e
                  have hx := cell_later hb.out hx0
                  have hxb := bytes_get m2 q HOS2.out.byte
                  clear hx0
                  generalize m2.getD q 0 = xo at *
                  have hme : (xo : Int) % (r : Int) = ((xo % r : Nat) : Int) := by push_cast; rfl
                  have hml := Nat.mod_lt xo (show 0 < r by omega)
                  have o0 : (0 : Int) ≤ (q : Int) := by omega
                  have o1 : (q : Int) < (len2 : Int) := by omega
                  go_wp2_with fail
                  go_meet
                  exact ⟨⟨xo % r, hml, by first | rfl | rw [hme]⟩, rfl⟩
                | false =>
                  go_wp2_with fail
                  go_meet
                  exact ⟨⟨0, by omega, rfl⟩, rfl⟩
              case rest =>
              obtain ⟨⟨t, htr, rfl⟩, rfl⟩ := hcut
              obtain ⟨p, hp⟩ : ∃ p, xs.getD t 0 = p := ⟨_, rfl⟩
              have htx : t < xs.length := by rw [hX.out]; exact htr
              have hpN : p < j := by rw [← hp]; exact hP.out.xlt _ (getD_mem xs t 0 htx)
              have hcx := hP.out.left.cell t htx
              rw [hp] at hcx
              have HPX := Lib.hid hp
              obtain ⟨b', off', ra, rc, e, hcj0, hSj0⟩ := HF.out.at p (by rw [HFL.out]; exact hpN)
              cases e
              rw [frags_row s j p hpN] at hcj0 hSj0
              have HFLL : Hid ((frag s p).length = k0) := by show _ = _; rw [frag_len, HK0.out]
              rw [HFLL.out] at hcj0
              have hcj := cell_later hb.out hcj0
              have HSJ := Lib.hid hSj0
              obtain ⟨g', cp', w4, hrun, hL4, hg4, hat4⟩ := run_appF (w0 := w2) (wc.drew.alloc (.cells #[.int .i64 (p : Int), .slice ra k0 rc] 38)) 36 (.slice (some ⟨gF, 0, none⟩) q cp) fs q wc.heap.size ⟨(p : Int), ra, rc, frag s p⟩ hP.out.flen ((hP.out.list.chg (gs := []) (Chg.refl _ _).drew (by simp)).chg (gs := []) ((Chg.refl _ _).alloc _) (by simp)) hSj0 (wf_nat p (by omega)) (cell_pair0 _ _ _ _ _ rfl) (by show _ = some (Value.slice ra (frag s p).length rc); rw [HFLL.out]; exact cell_pair1 _ _ _ _ _ rfl) (by omega) (by simp; show _ ≤ wc.heap.size + 1; omega)
              have hFlt := hP.out.list.lt gF rfl
              have hne := hP.out.ne
              have hLlt := hP.out.left.lt
              have HL4 := Lib.hid hL4
              have HC4 : Hid (Chg [gF] wc w4) := ((Chg.refl _ _).drew.alloc _).trans (Chg.of_grown hg4)
              have HB4 := Lib.hid (HC4.out.below hb.out hbz (by simp; exact hFlt.1))
              have hz4 := HC4.out.size
              have HI4 := Lib.hid (hP.out.left.chg HC4.out (by simpa using hne))
              have hcxd : wc.drew.cell? ⟨gL, t, none⟩ = some (.int .i64 (p : Int)) := hcx
              have hcjd : wc.drew.cell? ⟨bF, offF + p, none⟩ = some (.slice ra k0 rc) := hcj
              have t0 : (0 : Int) ≤ (t : Int) := by omega
              have t1 : (t : Int) < (r : Int) := by omega
              have p0 : (0 : Int) ≤ (p : Int) := by omega
              have p1 : (p : Int) < (j : Int) := by omega
              have HRUN := Lib.hid hrun
              clear hL4 hg4 hat4 hcj0 hSj0 hp hrun
              go_upto_region 20 with fail
              go_cut [13] (fun sl wx => sl = .slice (some ⟨g', 0, none⟩) (q + 1) cp' ∧ wx = w4)
              case first =>
                go_region_law (refine step_run_append rfl (.tmp 82) (.tmp 95) 36 rfl _ _ _ _ rfl rfl HRUN.out ?_)
                all_goals (go_wp2_with fail; go_meet)
                all_goals exact ⟨rfl, rfl⟩
              case rest =>
              obtain ⟨rfl, rfl⟩ := hcut
              clear hcxd hcjd hcx hcj HRUN
              obtain ⟨g1, c1, w5, g2, c2, w6, hrun1, hrun2, hI6, hb6⟩ := any_out HI4.out hX.out htr (by omega) HB4.out.size
              have HI6 := Lib.hid hI6
              have HB6 := Lib.hid (HB4.out.trans (hb6.mono HB4.out.size))
              have HPN : Hid (PickA w2 w6 g2 c2 g' cp' j (q + 1) k0 s (outOf xs t) (fs ++ [⟨(p : Int), ra, rc, frag s p⟩])) := hP.out.step htx (by rw [HPX.out]) (by rw [HPX.out]) HL4.out hb6 hI6
              have HXL := Lib.hid (outOf_len hX.out htr)
              have hwr : IntKind.i64.wrap ((t : Int) + 1) = (t : Int) + 1 := IntWalk.i64_in _ (by omega)
              have s1 : (t : Int) ≤ (cL : Int) := by omega
              have s2 : (0 : Int) ≤ (t : Int) + 1 := by omega
              have s3 : (t : Int) + 1 ≤ (r : Int) := by omega
              have s4 : cL ≠ 0 := by omega
              have s5 : ¬ cL = 0 := by omega
              clear hI6 hb6
              go_upto_region 21 with fail
              by_cases hcap : cL = t + 1
              · rw [if_pos hcap] at hrun2
                subst hcap
                obtain rfl : r = t + 1 := by omega
                simp only [Nat.sub_self, Nat.add_zero] at hrun2 HXL
                have s6 : (t : Int) ≤ (t : Int) + 1 := by omega
                have s7 : (t : Int) + 1 ≤ (t : Int) + 1 := by omega
                have HR1 := Lib.hid hrun1
                have HR2 := Lib.hid hrun2
                clear hrun1 hrun2
                go_region_law (first | refine step_run_append rfl (.tmp 97) (.tmp 100) 35 rfl _ _ _ _ rfl rfl HR1.out ?_ | refine step_run_append rfl (.tmp 101) (.tmp 105) 35 rfl _ _ _ _ rfl rfl HR2.out ?_)
                all_goals go_wp2
                all_goals go_round
                all_goals first | exact ⟨q + 1, g2, c2, _, g', cp', _, _, by omega, by go_num, rfl, rfl, by omega, by omega, HXL, HPN, HB6⟩ | (simp [intOf]; omega)
              · rw [if_neg hcap] at hrun2
                have HR1 := Lib.hid hrun1
                have HR2 := Lib.hid hrun2
                clear hrun1 hrun2
                go_region_law (first | refine step_run_append rfl (.tmp 97) (.tmp 100) 35 rfl _ _ _ _ rfl rfl HR1.out ?_ | refine step_run_append rfl (.tmp 101) (.tmp 105) 35 rfl _ _ _ _ rfl rfl HR2.out ?_)
                all_goals go_wp2
                all_goals go_round
                all_goals first | exact ⟨q + 1, g2, c2, _, g', cp', _, _, by omega, by go_num, rfl, rfl, by omega, by omega, HXL, HPN, HB6⟩ | (simp [intOf]; omega)
            · obtain rfl : q = l := by omega
              obtain ⟨_, hFR⟩ := hP.out.list.frs hb.out
              obtain ⟨hg1, hg2, hg3, hg4⟩ := any_good hP.out hl1 HL.out HE.out HBY.out HK0.out hFR
              have HG1 := Lib.hid hg1
              have HG2 := Lib.hid hg2
              have HG3 := Lib.hid hg3
              have HG4 := Lib.hid hg4
              have HFR := Lib.hid hFR
              have HFLN := Lib.hid hP.out.flen
              have HS3 := Lib.hid (HS2.out.below hb.out)
              have HF3 := Lib.hid (HF.out.below hb.out)
              have HB3 := Lib.hid (HB2.out.trans (hb.out.mono HB2.out.size))
              have HDE := Lib.hid (fun w => fun h => dec_any (some ⟨gF, 0, none⟩) cp q q m' j fs w h HFLN.out (by omega) hl1 HN.out hn2 (by rw [HG3.out]; omega))
              have HRE := Lib.hid (fun (p : Nat) (hp : p < j) => fun w => fun h => reb_any p (some ⟨gF, 0, none⟩) cp q q m' j fs w h HFLN.out (by omega) hl1 HN.out hn2 hp (by rw [HG3.out]; omega))
              clear hFR hg1 hg2 hg3 hg4 hP hb
              go_wp2_with fail
              refine (HDE.out _ HFR.out).mono ?_
              rintro e w5 ⟨hb5, ⟨hg, _⟩ | ⟨_, hf, _⟩ | ⟨_, _, T, aT, cT, rfl, hT, hTl, hBe⟩⟩
              · exact absurd HG1.out hg
              · rw [HG2.out] at hf; omega
              obtain rfl := HG4.out T hBe
              have HT5 := Lib.hid hT
              have HS5 := Lib.hid (HS3.out.below hb5)
              have HF5 := Lib.hid (HF3.out.below hb5)
              have HFR5 := Lib.hid (HFR.out.below hb5)
              have HB5 := Lib.hid (HB3.out.trans (hb5.mono HB3.out.size))
              clear hT hTl hBe hb5 HS3 HF3 HFR HB3
              go_wp2_with fail
              refine (same_at _ _ _ _ q q T T _ HT5.out HS5.out rfl HL.out HL.out).mono ?_
              rintro e w6 ⟨rfl, hb6⟩
              have HF6 := Lib.hid (HF5.out.below hb6)
              have HFR6 := Lib.hid (HFR5.out.below hb6)
              have HB6 := Lib.hid (HB5.out.trans (hb6.mono HB5.out.size))
              clear hb6 HT5 HS5 HF5 HFR5 HB5
              go_wp2
              go_loopw [18, 19, 20] (fun i _ _ ws => ∃ p : Nat, p ≤ j ∧ i = .int .i64 p ∧ Hid (Below w6.heap.size w6 ws)) (fun i _ _ _ => j - (intOf i).toNat)
              case atStart => exact ⟨0, Nat.zero_le _, rfl, Below.refl _ _⟩
              case round =>
                obtain ⟨p, hp, rfl, hb⟩ := hrel
                have hbz := hb.out.size
                by_cases hlp : p < j
                · have hlp' : (p : Int) < (q : Int) + (m' : Int) := by omega
                  go_wp2_with fail
                  refine (HRE.out p hlp _ (HFR6.out.below hb.out)).mono ?_
                  rintro e w7 ⟨hb7, ⟨hg, _⟩ | ⟨_, hf, _⟩ | ⟨_, _, V, aV, cV, rfl, hV, hBe⟩⟩
                  · exact absurd HG1.out hg
                  · rw [HG2.out] at hf; omega
                  obtain rfl := HG4.out V hBe
                  have HFLP : Hid ((frag V p).length = k0) := by show _ = _; rw [frag_len, HK0.out]
                  rw [HFLP.out]
                  obtain ⟨b', off', ra, rc, e, hcp0, hSp0⟩ := HF6.out.at p (by rw [frags_len]; exact hlp)
                  cases e
                  rw [frags_row V j p hlp] at hcp0 hSp0
                  rw [HFLP.out] at hcp0
                  have hbb := hb.out.trans (hb7.mono hb.out.size)
                  have hcp := cell_later hbb hcp0
                  have HBB := Lib.hid hbb
                  have hs : ∀ q, (convert 28 9 (.slice aV k0 cV)).run Try.prog (w7.drewN q) = .ok (.string (strB (frag V p))) (w7.drewN q) := fun q => str_at (hV.drewN _) HFLP.out
                  have hs' : ∀ q, (convert 28 9 (.slice ra k0 rc)).run Try.prog (w7.drewN q) = .ok (.string (strB (frag V p))) (w7.drewN q) := fun q => str_at ((hSp0.below hbb).drewN _) HFLP.out
                  have p0 : (0 : Int) ≤ (p : Int) := by omega
                  have p1 : (p : Int) < (j : Int) := by omega
                  clear hb7 hV hBe hcp0 hSp0 hbb
                  generalize strB (frag V p) = st at *
                  go_wp2
                  go_quiet (fail)
                  go_wp2
                  go_round
                  case rel => exact ⟨p + 1, by omega, by go_num, HBB.out.trans ((below_drewN _ _).mono HBB.out.size)⟩
                  case measure => simp [intOf]; omega
                · have hlp' : ¬ (p : Int) < (q : Int) + (m' : Int) := by omega
                  go_wp2_with fail
                  refine (awake3 _).mono ?_
                  rintro e w8 ⟨rfl, hb8⟩
                  have HB8 := Lib.hid (HB6.out.trans ((hb.out.trans (hb8.mono hb.out.size)).mono HB6.out.size))
                  go_wp2
                  go_ret
                  exact ⟨rfl, HB8.out⟩
  · obtain rfl : l = 0 := by omega
    refine (enc_no (m' : Int) a cap 0 _ (by omega) (by rintro ⟨h, _⟩; omega)).mono ?_
    rintro e w' ⟨rfl, rfl⟩
    have HB2 := HB1
    have HS2 := HS1
    go_wp2_with fail
    refine (awake3 _).mono ?_
    rintro e w4 ⟨rfl, hb4⟩
    have HB4 := Lib.hid (HB2.out.trans (hb4.mono HB2.out.size))
    have HS4 := Lib.hid (HS2.out.below hb4)
    go_wp2
    go_ret
    exact ⟨rfl, HB4.out⟩

end Go.Proofs.Ytnhledngeicekaa
