/-
  The walk of the law PackBack.
-/
import Derived.Test.YtjefjlalebpodaaWalksV5
import Derived.Test.YtjefjlalebpodaaArgI
import Derived.Test.YtjefjlalebpodaaLaw51
namespace Go.Proofs.Ytjefjlalebpodaa
open Go.RowKit


def encs (zs : List Int) : List Nat := (zs.map Pk.num).flatten
def txts (m : List (List Nat)) : List Nat := (m.map Pk.txt).flatten
def lens (m : List (List Nat)) : Nat := (m.map List.length).sum

theorem takeI {α : Type} (zs : List α) (d : α) (j : Nat) (h : j < zs.length) : zs.take (j + 1) = zs.take j ++ [zs.getD j d] := by
  rw [List.take_succ_eq_append_getElem h, List.getD_eq_getElem?_getD, List.getElem?_eq_getElem h]; rfl

theorem dropI {α : Type} (zs : List α) (d : α) (j : Nat) (h : j < zs.length) : zs.drop j = zs.getD j d :: zs.drop (j + 1) := by
  rw [List.drop_eq_getElem_cons h, List.getD_eq_getElem?_getD, List.getElem?_eq_getElem h]; rfl

theorem encs_snoc (zs : List Int) (j : Nat) (h : j < zs.length) : encs (zs.take (j + 1)) = encs (zs.take j) ++ Pk.num (zs.getD j 0) := by
  rw [takeI zs 0 j h]; simp [encs]
theorem txts_snoc (m : List (List Nat)) (j : Nat) (h : j < m.length) : txts (m.take (j + 1)) = txts (m.take j) ++ Pk.txt (m.getD j []) := by
  rw [takeI m [] j h]; simp [txts]
theorem lens_snoc (m : List (List Nat)) (j : Nat) (h : j < m.length) : lens (m.take (j + 1)) = lens (m.take j) + (m.getD j []).length := by
  rw [takeI m [] j h]; simp [lens]
theorem encs_drop (zs : List Int) (j : Nat) (h : j < zs.length) : encs (zs.drop j) = Pk.num (zs.getD j 0) ++ encs (zs.drop (j + 1)) := by
  rw [dropI zs 0 j h]; simp [encs]
theorem txts_drop (m : List (List Nat)) (j : Nat) (h : j < m.length) : txts (m.drop j) = Pk.txt (m.getD j []) ++ txts (m.drop (j + 1)) := by
  rw [dropI m [] j h]; simp [txts]

theorem encs_len : ∀ zs : List Int, (encs zs).length ≤ 10 * zs.length
  | [] => by simp [encs]
  | z :: zs => by
    have h := encs_len zs
    have := (Pk.num_len z).2
    show ((Pk.num z) ++ encs zs).length ≤ _
    rw [List.length_append, List.length_cons]
    omega

theorem txts_len : ∀ m : List (List Nat), (txts m).length ≤ 10 * m.length + lens m
  | [] => by simp [txts]
  | s :: m => by
    have h := txts_len m
    have := (Pk.txt_len s).2
    show ((Pk.txt s) ++ txts m).length ≤ _
    have e : lens (s :: m) = s.length + lens m := by simp [lens]
    rw [List.length_append, List.length_cons, e]
    omega

theorem lens_take (m : List (List Nat)) (j : Nat) : lens (m.take j) ≤ lens m := by
  have : lens m = lens (m.take j) + lens (m.drop j) := by
    have e : (m.take j ++ m.drop j).map List.length = (m.take j).map List.length ++ (m.drop j).map List.length := List.map_append
    rw [List.take_append_drop] at e
    unfold lens
    rw [e, List.sum_append]
  omega

theorem lens_drop (m : List (List Nat)) (j : Nat) : lens (m.drop j) ≤ lens m := by
  have : lens m = lens (m.take j) + lens (m.drop j) := by
    have e : (m.take j ++ m.drop j).map List.length = (m.take j).map List.length ++ (m.drop j).map List.length := List.map_append
    rw [List.take_append_drop] at e
    unfold lens
    rw [e, List.sum_append]
  omega

theorem lens_row (m : List (List Nat)) (j : Nat) (h : j < m.length) : (m.getD j []).length ≤ lens m := by
  have := lens_snoc m j h
  have := lens_take m (j + 1)
  omega

section
variable {P : Program} {ops : Array Oper} {Q : Exit → Act → World → Prop} {md : Region.Mode} {S : World → Prop}

theorem wp_region_S {id : Nat} {a : Act} {w : World} (S : World → Prop) (hm : P.follows .mixedOrders = true)
    (h : wpAnyH P .any ops (NoPanic Q) S ops.size (Array.replicate ops.size false) a w.drew) : (Code.region id ops true).wp P Q a w :=
  wp_region_noPanic (wp_region_held hm h)

/-- Take number i first: it yields v in every world that meets S. -/
theorem wpAnyH_tkS {i : Nat} (d : Nat) {oi : Oper} {v : Value} {fuel : Nat} {listed : Array Bool} {a : Act} {w : World} (hi : ops[i]? = some oi) (hd : oi.dst = some d)
    (hs : Region.noSelect ops = true) (hf : Region.free md ops listed i = true) (hr : (Region.ready md ops listed).contains i = true)
    (hw : Region.wanted oi (yielded ops a.tmps) = true) (hS : S w) (hv : ∀ w', S w' → (execOp a.eval oi).run P w' = .ok (.value v) w')
    (h : wpAnyH P md ops (NoPanic Q) S fuel (listed.setIfInBounds i true) ⟨a.tmps.setIfInBounds d v, a.defers⟩ w) : wpAnyH P md ops (NoPanic Q) S (fuel + 1) listed a w :=
  wpAnyH_take hi hs hf hr (fun _ _ _ h => h) (.inl ⟨hw, hv⟩) hS (by rw [hd]; exact h)

/-- Number i alone may come up: a call; behind it the condition may be a stronger one. -/
theorem wpAnyH_oneS {i : Nat} {o : Oper} {fuel : Nat} {listed : Array Bool} {a : Act} {w : World} (ho : ops[i]? = some o) (hr : Region.ready md ops listed = [i])
    (hw : Region.wanted o (yielded ops a.tmps) = true)
    (h : ∀ K' : Act → World → Prop, Shut (∀ a w' (S' : World → Prop), (∀ x, S' x → S x) → S' w' → wpAnyH P md ops (NoPanic Q) S' fuel (listed.setIfInBounds i true) a w' → K' a w') → Oper.wp P o a w K' (NoPanic Q)) :
    wpAnyH P md ops (NoPanic Q) S (fuel + 1) listed a w := by
  refine wpAnyH_all hr (by simp) fun j hj => ?_
  obtain rfl : j = i := by simpa using hj
  refine wpOp_step ho fun K' hK => ?_
  rw [if_pos hw]
  exact h K' fun a w' S' hE hW hH => hK a w' ⟨hE w' hW, wpAnyH_more hE _ _ _ _ hH⟩

end



set_option maxRecDepth 100000 in
set_option maxHeartbeats 4000000 in
theorem packBack_from (a0 : Option Addr) (len0 cap0 : Nat) (zs : List Int) (a1 : Option Addr) (len1 cap1 : Nat) (m : List (List Nat)) (p0 p1 : Nat) (w : World) (L0 : zs.length = len0) (s0 : IntsAt w a0 cap0 zs) (L1 : m.length = len1) (s1 : GridAt w a1 cap1 m)
    (hrow : ∀ i, i < m.length → (m.getD i []).length ≤ 140737488351232) (hp0 : p0 ≤ len0) (hp30 : p0 ≤ 30) (hp1 : p1 ≤ len1) (hp10 : p1 ≤ 10)
    (e0 : (decide ((p0 : Int) < (len0 : Int)) = false ∧ decide (p0 < len0) = false) ∨ (decide ((p0 : Int) < (len0 : Int)) = true ∧ decide (p0 < len0) = true ∧ decide ((p0 : Int) < 30) = false))
    (e1 : (decide ((p1 : Int) < (len1 : Int)) = false ∧ decide (p1 < len1) = false) ∨ (decide ((p1 : Int) < (len1 : Int)) = true ∧ decide (p1 < len1) = true ∧ decide ((p1 : Int) < 10) = false)) :
    Calls Try.prog 4 #[.slice a0 len0 cap0, .slice a1 len1 cap1] w fun e w' => e = .returned (.bool true) ∧ Below w.heap.size w w' := by
  have h0 : len0 ≤ maxLen := by have := s0.le; have := s0.max; omega
  have h1 : len1 ≤ maxLen := by have := s1.le; have := s1.max; omega
  unfold maxLen at h0 h1
  have H0 := Lib.hid L0
  have H1 := Lib.hid L1
  have S0 := Lib.hid s0
  have S1 := Lib.hid s1
  have HRW := Lib.hid hrow
  clear L0 L1 s0 s1 hrow
  rcases e0 with ⟨x0, x0'⟩ | ⟨x0, x0', x0''⟩ <;> rcases e1 with ⟨x1, x1'⟩ | ⟨x1, x1', x1''⟩
  all_goals
    go_enter Try.func4, Try.ntmps4
    go_wp2
    go_loopw [5, 6] (fun v i ws => ∃ (j cb : Nat) (ab : Option Addr), j ≤ p0 ∧ i = .int .i64 (j : Int) ∧ v = .slice ab (encs (zs.take j)).length cb ∧ Hid (SeenAt ws ab cb (encs (zs.take j))) ∧ Hid (Below w.heap.size w ws)) (fun _ i _ => p0 - (intOf i).toNat)
    case atStart => exact ⟨0, 0, some ⟨w.heap.size, 0, none⟩, Nat.zero_le _, rfl, rfl, SeenAt.nil (Nat.zero_le _), below_one w _⟩
    case round =>
      obtain ⟨j, cb, ab, hj, rfl, rfl, HS, HB⟩ := hrel
      by_cases hlt : j < p0
      · have d1 : decide ((j : Int) < (len0 : Int)) = true := by simp; omega
        have d2 : decide (j < len0) = true := by simp; omega
        have d3 : decide ((j : Int) < 30) = true := by simp; omega
        have j0 : (0 : Int) ≤ (j : Int) := by omega
        have j1 : (j : Int) < (len0 : Int) := by omega
        obtain ⟨b, off, rfl, hc⟩ := (S0.out.below HB.out).cell j (by rw [H0.out]; omega)
        have hz := S0.out.wf j
        have HN := Lib.hid (encs_snoc zs j (by rw [H0.out]; omega))
        have HLN : Hid ((encs (zs.take j)).length ≤ 300) := by
          have := encs_len (zs.take j)
          have : (zs.take j).length ≤ j := List.length_take_le _ _
          show _ ≤ _
          omega
        generalize hq : (encs (zs.take j)).length = q at *
        have HQ := Lib.hid hq
        clear hq
        generalize zs.getD j 0 = z at *
        go_wp2_with fail
        refine (packNum_any _ _ _ (encs (zs.take j)) z _ HQ.out (by have := HLN.out; omega) HS.out hz.1 hz.2).mono ?_
        rintro e w2 ⟨x2, y2, rfl, hs2, _, hb2⟩
        have HS2 : Hid (SeenAt w2 x2 y2 (encs (zs.take (j + 1)))) := by show SeenAt _ _ _ _; rw [HN.out]; exact hs2
        have HB2 := Lib.hid (HB.out.trans (hb2.mono HB.out.size))
        rw [← HN.out]
        clear hs2 hb2
        go_wp2
        go_roundw
        case rel => exact ⟨j + 1, y2, x2, by omega, by go_num, rfl, HS2, HB2⟩
        case measure => simp [intOf]; omega
      · obtain rfl : p0 = j := by omega
        have HLE : Hid ((encs (zs.take p0)).length ≤ 300) := by
          have := encs_len (zs.take p0)
          have : (zs.take p0).length ≤ p0 := List.length_take_le _ _
          show _ ≤ _
          omega
        have HZL : Hid ((zs.take p0).length = p0) := by show _ = _; rw [List.length_take, H0.out]; omega
        have HZG : Hid (∀ i, i < p0 → (zs.take p0).getD i 0 = zs.getD i 0) := fun i hi => by
          rw [List.getD_eq_getElem?_getD, List.getElem?_take_of_lt hi, ← List.getD_eq_getElem?_getD]
        generalize hA : zs.take p0 = A at *
        clear hA
        generalize hq : (encs A).length = qa at *
        have HQA := Lib.hid hq
        clear hq hj hlt
        generalize wr = w2 at *
        go_wp2
        go_loop [7, 8] (fun v i => ∃ j q : Nat, j ≤ p1 ∧ q ≤ 140737488351732 ∧ i = .int .i64 (j : Int) ∧ v = .int .i64 (q : Int) ∧ Hid (q = lens (m.take j))) (fun _ i => p1 - (intOf i).toNat)
        case atStart => exact ⟨0, 0, Nat.zero_le _, by omega, rfl, rfl, rfl⟩
        case round =>
          obtain ⟨j, q, hj, hqm, rfl, rfl, HQ⟩ := hrel
          by_cases hlt : j < p1 ∧ q < 500
          · obtain ⟨hlt, hq5⟩ := hlt
            have d1 : decide ((j : Int) < (len1 : Int)) = true := by simp; omega
            have d2 : decide (j < len1) = true := by simp; omega
            have d3 : decide ((j : Int) < 10) = true := by simp; omega
            have d4 : decide ((q : Int) < 500) = true := by simp; omega
            have j0 : (0 : Int) ≤ (j : Int) := by omega
            have j1 : (j : Int) < (len1 : Int) := by omega
            obtain ⟨b, off, r, rfl, hc, ra, rc, rfl, hS⟩ := (S1.out.below HB.out).row j (by rw [H1.out]; omega)
            have hrl := HRW.out j (by rw [H1.out]; omega)
            have HN := Lib.hid (lens_snoc m j (by rw [H1.out]; omega))
            clear hS
            generalize (m.getD j []).length = lr at *
            go_wp2
            go_round
            case rel => exact ⟨j + 1, q + lr, by omega, by omega, by go_num, by go_num, by show _ = _; rw [HN.out, ← HQ.out]⟩
            case measure => simp [intOf]; omega
          · by_cases hq5 : q < 500
            · obtain rfl : p1 = j := by omega
              have d4 : decide ((q : Int) < 500) = true := by simp; omega
              have d5 : decide ((500 : Int) ≤ (q : Int)) = false := by simp; omega
              have HML : Hid ((m.take p1).length = p1) := by show _ = _; rw [List.length_take, H1.out]; omega
              have HMG : Hid (∀ i, i < p1 → (m.take p1).getD i [] = m.getD i []) := fun i hi => by
                rw [List.getD_eq_getElem?_getD, List.getElem?_take_of_lt hi, ← List.getD_eq_getElem?_getD]
              have HMM : Hid (lens (m.take p1) < 500) := by show _ < _; rw [← HQ.out]; exact hq5
              generalize hM : m.take p1 = M at *
              clear hM hlt hj HQ
              go_wp2
              go_loopw [5, 9] (fun v i ws => ∃ (j cb : Nat) (ab : Option Addr), j ≤ p1 ∧ i = .int .i64 (j : Int) ∧ v = .slice ab (encs A ++ txts (M.take j)).length cb ∧ Hid (SeenAt ws ab cb (encs A ++ txts (M.take j))) ∧ Hid (Below w.heap.size w ws)) (fun _ i _ => p1 - (intOf i).toNat)
              case atStart => exact ⟨0, cb, ab, Nat.zero_le _, rfl, by show Value.slice ab qa cb = .slice ab (encs A ++ []).length cb; rw [List.append_nil, HQA.out], by show SeenAt _ _ _ (encs A ++ []); rw [List.append_nil]; exact HS.out, HB⟩
              case round =>
                obtain ⟨j, cb, ab, hj, rfl, rfl, HS, HB⟩ := hrel
                have HLN : Hid ((encs A ++ txts (M.take j)).length ≤ 1000) := by
                  have h1 := txts_len (M.take j)
                  have h2 : (M.take j).length ≤ j := List.length_take_le _ _
                  have h3 := lens_take M j
                  have h4 := HMM.out
                  have h5 := HLE.out
                  have h6 := HQA.out
                  show _ ≤ _
                  rw [List.length_append]
                  omega
                by_cases hlt : j < p1
                · have d1 : decide ((j : Int) < (len1 : Int)) = true := by simp; omega
                  have d2 : decide (j < len1) = true := by simp; omega
                  have d3 : decide ((j : Int) < 10) = true := by simp; omega
                  have j0 : (0 : Int) ≤ (j : Int) := by omega
                  have j1 : (j : Int) < (len1 : Int) := by omega
                  obtain ⟨b, off, r, rfl, hc, ra, rc, rfl, hS⟩ := (S1.out.below HB.out).row j (by rw [H1.out]; omega)
                  have HSR := Lib.hid hS
                  have HRL : Hid ((m.getD j []).length ≤ 500) := by
                    have h1 := lens_row M j (by rw [HML.out]; exact hlt)
                    rw [HMG.out j hlt] at h1
                    have h2 := HMM.out
                    show _ ≤ _
                    omega
                  have HN : Hid (encs A ++ txts (M.take (j + 1)) = (encs A ++ txts (M.take j)) ++ Pk.txt (m.getD j [])) := by
                    show _ = _
                    rw [txts_snoc M j (by rw [HML.out]; exact hlt), HMG.out j hlt, List.append_assoc]
                  clear hS
                  generalize hq : (encs A ++ txts (M.take j)).length = q2 at *
                  have HQ2 := Lib.hid hq
                  generalize hr : (m.getD j []).length = lr at *
                  have HRR := Lib.hid hr
                  clear hq hr
                  go_wp2_with fail
                  refine (packText_any _ _ _ _ _ _ (encs A ++ txts (M.take j)) (m.getD j []) _ HQ2.out HRR.out (by have := HLN.out; omega) (by have := HRL.out; omega) HS.out HSR.out).mono ?_
                  rintro e w3 ⟨x3, y3, rfl, hs3, _, hb3⟩
                  have HS3 : Hid (SeenAt w3 x3 y3 (encs A ++ txts (M.take (j + 1)))) := by show SeenAt _ _ _ _; rw [HN.out]; exact hs3
                  have HB3 := Lib.hid (HB.out.trans (hb3.mono HB.out.size))
                  rw [← HN.out]
                  clear hs3 hb3
                  go_wp2
                  go_roundw
                  case rel => exact ⟨j + 1, y3, x3, by omega, by go_num, by rw [List.length_append], HS3, HB3⟩
                  case measure => simp [intOf]; omega
                · obtain rfl : p1 = j := by omega
                  have HMT : Hid (M.take p1 = M) := List.take_of_length_le (by rw [HML.out]; omega)
                  rw [HMT.out] at HS HLN
                  rw [HMT.out]
                  generalize hq : (encs A ++ txts M).length = q2 at *
                  have HQ2 := Lib.hid hq
                  clear hq hj hlt
                  go_wp2_with fail
                  refine (new_any _ _ _ (encs A ++ txts M) _ HQ2.out (by have := HLN.out; omega) HS.out).mono ?_
                  rintro e w3 ⟨R, rfl, hR, hr3, hb3⟩
                  have HR3 := Lib.hid hr3
                  have HB3 := Lib.hid (HB.out.trans (hb3.mono HB.out.size))
                  have hRw : w.heap.size ≤ R := Nat.le_trans HB.out.size hR
                  clear hr3 hb3
                  go_wp2
                  go_loopw [11] (fun i ws => ∃ j : Nat, j ≤ p0 ∧ i = .int .i64 (j : Int) ∧ Hid (Rdr ws R (encs (A.drop j) ++ txts M, false)) ∧ Hid (Below w.heap.size w ws)) (fun i _ => p0 - (intOf i).toNat)
                  case atStart => exact ⟨0, Nat.zero_le _, rfl, HR3, HB3⟩
                  case round =>
                    obtain ⟨j, hj, rfl, HR, HB⟩ := hrel
                    by_cases hlt : j < p0
                    · have d1 : decide ((j : Int) < (len0 : Int)) = true := by simp; omega
                      have d2 : decide (j < len0) = true := by simp; omega
                      have d3 : decide ((j : Int) < 30) = true := by simp; omega
                      have j0 : (0 : Int) ≤ (j : Int) := by omega
                      have j1 : (j : Int) < (len0 : Int) := by omega
                      obtain ⟨b, off, rfl, hc0⟩ := S0.out.cell j (by rw [H0.out]; omega)
                      have hbR : b ≠ R := by have := World.block_lt_of_cell? w _ hc0; simp at this; omega
                      have hc := cell_later HB.out hc0
                      have hz := S0.out.wf j
                      have HST : Hid (encs (A.drop j) ++ txts M = Pk.num (zs.getD j 0) ++ (encs (A.drop (j + 1)) ++ txts M)) := by
                        show _ = _
                        rw [encs_drop A j (by rw [HZL.out]; exact hlt), HZG.out j hlt, List.append_assoc]
                      generalize zs.getD j 0 = z at *
                      have HNX : Hid (∀ x, Rdr x R (encs (A.drop j) ++ txts M, false) → Calls Try.prog 19 #[.pointer (some ⟨R, 0, none⟩)] x (RInt x R z (encs (A.drop (j + 1)) ++ txts M, false))) := fun x hx => by
                        have h1 := rNum_any R _ x hx
                        have h2 := Pk.vN_num z (encs (A.drop (j + 1)) ++ txts M) false hz.1 hz.2
                        rw [HST.out, h2.1, h2.2] at h1
                        exact h1
                      clear HST hc0
                      go_wp2_with fail
                      refine wp_region_S (fun x => x.cell? ⟨b, off + j, none⟩ = some (.int .i64 z) ∧ True) (by kernel_rfl) ?_
                      have hSw : wr.drew.cell? ⟨b, off + j, none⟩ = some (.int .i64 z) ∧ True := ⟨hc, trivial⟩
                      have HRd : Hid (Rdr wr.drew R (encs (A.drop j) ++ txts M, false)) := HR.out.alike rfl
                      have HBd : Hid (Below w.heap.size w wr.drew) := HB.out.drew
                      generalize wr.drew = wd at *
                      clear hc
                      refine wpAnyH_tkS (i := 0) 82 (v := ?_) rfl rfl (by kernel_rfl) (by kernel_rfl) (by kernel_rfl) (by rfl) hSw (fun wq hwq => ?_) ?_
                      rotate_left
                      · (first | (obtain ⟨hx1, hx2⟩ := hwq; go_simp <;> with_reducible rfl) | (go_simp <;> with_reducible rfl))
                      simp only [List.setIfInBounds_toArray, List.set_cons_zero, List.set_cons_succ]
                      refine wpAnyH_tkS (i := 2) 84 (v := ?_) rfl rfl (by kernel_rfl) (by kernel_rfl) (by kernel_rfl) (by rfl) hSw (fun wq hwq => ?_) ?_
                      rotate_left
                      · (first | (obtain ⟨hx1, hx2⟩ := hwq; go_simp <;> with_reducible rfl) | (go_simp <;> with_reducible rfl))
                      simp only [List.setIfInBounds_toArray, List.set_cons_zero, List.set_cons_succ]
                      refine wpAnyH_tkS (i := 3) 85 (v := ?_) rfl rfl (by kernel_rfl) (by kernel_rfl) (by kernel_rfl) (by rfl) hSw (fun wq hwq => ?_) ?_
                      rotate_left
                      · (first | (obtain ⟨hx1, hx2⟩ := hwq; go_simp <;> with_reducible rfl) | (go_simp <;> with_reducible rfl))
                      simp only [List.setIfInBounds_toArray, List.set_cons_zero, List.set_cons_succ]
                      refine wpAnyH_tkS (i := 4) 86 (v := ?_) rfl rfl (by kernel_rfl) (by kernel_rfl) (by kernel_rfl) (by rfl) hSw (fun wq hwq => ?_) ?_
                      rotate_left
                      · (first | (obtain ⟨hx1, hx2⟩ := hwq; go_simp <;> with_reducible rfl) | (go_simp <;> with_reducible rfl))
                      simp only [List.setIfInBounds_toArray, List.set_cons_zero, List.set_cons_succ]
                      refine wpAnyH_tkS (i := 5) 87 (v := ?_) rfl rfl (by kernel_rfl) (by kernel_rfl) (by kernel_rfl) (by rfl) hSw (fun wq hwq => ?_) ?_
                      rotate_left
                      · (first | (obtain ⟨hx1, hx2⟩ := hwq; go_simp <;> with_reducible rfl) | (go_simp <;> with_reducible rfl))
                      simp only [List.setIfInBounds_toArray, List.set_cons_zero, List.set_cons_succ]
                      refine wpAnyH_oneS (i := 1) rfl (by kernel_rfl) (by rfl) (fun K hK => ?_)
                      go_simp
                      refine (HNX.out _ HRd.out).mono ?_
                      rintro e w4 ⟨rfl, hr4, hb4⟩
                      have HR4 := Lib.hid hr4
                      have HB4 := Lib.hid (hb4.below HBd.out HBd.out.size (by simpa using hRw))
                      refine hK.out _ _ (fun x => x = w4) (fun x hx => by subst hx; exact ⟨hb4.cell hSw.1 (by simpa using hbR), trivial⟩) rfl ?_
                      clear hK K hr4 hb4 hSw
                      refine wpAnyH_tkS (i := 6) 88 (v := ?_) rfl rfl (by kernel_rfl) (by kernel_rfl) (by kernel_rfl) (by rfl) rfl (fun wq hwq => ?_) ?_
                      rotate_left
                      · (subst hwq; have hx := True.intro; go_simp <;> with_reducible rfl)
                      simp only [List.setIfInBounds_toArray, List.set_cons_zero, List.set_cons_succ]
                      refine wpAnyH_done (by kernel_rfl) ?_ _
                      refine NoPanic.normal ?_
                      go_wp2
                      go_roundw
                      case rel => exact ⟨j + 1, by omega, by go_num, HR4, HB4⟩
                      case measure => simp [intOf]; omega
                    · obtain rfl : p0 = j := by omega
                      have HAD : Hid (A.drop p0 = []) := by show _ = _; rw [← HZL.out, List.drop_length]
                      have HR5 : Hid (Rdr wr R (txts (M.drop 0), false)) := by
                        have := HR.out
                        rw [HAD.out] at this
                        exact this
                      clear HR HR3 HB3 hj hlt
                      go_wp2
                      go_loopw [12] (fun i ws => ∃ j : Nat, j ≤ p1 ∧ i = .int .i64 (j : Int) ∧ Hid (Rdr ws R (txts (M.drop j), false)) ∧ Hid (Below w.heap.size w ws)) (fun i _ => p1 - (intOf i).toNat)
                      case atStart => exact ⟨0, Nat.zero_le _, rfl, HR5, HB⟩
                      case round =>
                        obtain ⟨j, hj, rfl, HR, HB⟩ := hrel
                        by_cases hlt : j < p1
                        · have d1 : decide ((j : Int) < (len1 : Int)) = true := by simp; omega
                          have d2 : decide (j < len1) = true := by simp; omega
                          have d3 : decide ((j : Int) < 10) = true := by simp; omega
                          have j0 : (0 : Int) ≤ (j : Int) := by omega
                          have j1 : (j : Int) < (len1 : Int) := by omega
                          obtain ⟨b, off, r, rfl, hc0, ra, rc, rfl, hS⟩ := S1.out.row j (by rw [H1.out]; omega)
                          have hbR : b ≠ R := by have := World.block_lt_of_cell? w _ hc0; simp at this; omega
                          have hc := cell_later HB.out hc0
                          have HCV := Lib.hid (fun (x : World) (h : Below w.heap.size w x) => str_of (hS.below h))
                          have HRL : Hid ((m.getD j []).length ≤ 500) := by
                            have h1 := lens_row M j (by rw [HML.out]; exact hlt)
                            rw [HMG.out j hlt] at h1
                            have h2 := HMM.out
                            show _ ≤ _
                            omega
                          have HTL : Hid ((txts (M.drop j)).length ≤ 100000000) := by
                            have h1 := txts_len (M.drop j)
                            have h2 := lens_drop M j
                            have h3 := HMM.out
                            have h4 := HML.out
                            rw [List.length_drop] at h1
                            show _ ≤ _
                            omega
                          have HST : Hid (txts (M.drop j) = Pk.txt (m.getD j []) ++ txts (M.drop (j + 1))) := by
                            show _ = _
                            rw [txts_drop M j (by rw [HML.out]; exact hlt), HMG.out j hlt]
                          have HTX : Hid (∀ x, Rdr x R (txts (M.drop j), false) → Calls Try.prog 20 #[.pointer (some ⟨R, 0, none⟩)] x (RTxt x R (m.getD j []) (txts (M.drop (j + 1)), false))) := fun x hx => by
                            have h1 := rText_any R _ x hx HTL.out
                            have h2 := Pk.vT_txt (m.getD j []) (txts (M.drop (j + 1))) false (by have := HRL.out; omega)
                            rw [HST.out, h2.1, h2.2] at h1
                            exact h1
                          have HSV := Lib.hid (fun (x : World) p c (h : SeenAt x p c (m.getD j [])) => str_of h)
                          generalize strB (m.getD j []) = st at *
                          generalize hlr : (m.getD j []).length = lr at *
                          have HLR := Lib.hid hlr
                          clear hlr
                          clear HST hc0 hS
                          go_wp2_with fail
                          refine wp_region_S (fun x => x.cell? ⟨b, off + j, none⟩ = some (.slice ra lr rc) ∧ (convert 22 9 (.slice ra lr rc)).run Try.prog x = .ok (.string st) x) (by kernel_rfl) ?_
                          have hSw : wr.drew.cell? ⟨b, off + j, none⟩ = some (.slice ra lr rc) ∧ (convert 22 9 (.slice ra lr rc)).run Try.prog wr.drew = .ok (.string st) wr.drew := ⟨hc, HCV.out _ HB.out.drew⟩
                          have HRd : Hid (Rdr wr.drew R (txts (M.drop j), false)) := HR.out.alike rfl
                          have HBd : Hid (Below w.heap.size w wr.drew) := HB.out.drew
                          generalize wr.drew = wd at *
                          clear hc
                          refine wpAnyH_tkS (i := 0) 99 (v := ?_) rfl rfl (by kernel_rfl) (by kernel_rfl) (by kernel_rfl) (by rfl) hSw (fun wq hwq => ?_) ?_
                          rotate_left
                          · (first | (obtain ⟨hx1, hx2⟩ := hwq; go_simp <;> with_reducible rfl) | (go_simp <;> with_reducible rfl))
                          simp only [List.setIfInBounds_toArray, List.set_cons_zero, List.set_cons_succ]
                          refine wpAnyH_tkS (i := 3) 102 (v := ?_) rfl rfl (by kernel_rfl) (by kernel_rfl) (by kernel_rfl) (by rfl) hSw (fun wq hwq => ?_) ?_
                          rotate_left
                          · (first | (obtain ⟨hx1, hx2⟩ := hwq; go_simp <;> with_reducible rfl) | (go_simp <;> with_reducible rfl))
                          simp only [List.setIfInBounds_toArray, List.set_cons_zero, List.set_cons_succ]
                          refine wpAnyH_tkS (i := 4) 103 (v := ?_) rfl rfl (by kernel_rfl) (by kernel_rfl) (by kernel_rfl) (by rfl) hSw (fun wq hwq => ?_) ?_
                          rotate_left
                          · (first | (obtain ⟨hx1, hx2⟩ := hwq; go_simp <;> with_reducible rfl) | (go_simp <;> with_reducible rfl))
                          simp only [List.setIfInBounds_toArray, List.set_cons_zero, List.set_cons_succ]
                          refine wpAnyH_tkS (i := 5) 104 (v := ?_) rfl rfl (by kernel_rfl) (by kernel_rfl) (by kernel_rfl) (by rfl) hSw (fun wq hwq => ?_) ?_
                          rotate_left
                          · (first | (obtain ⟨hx1, hx2⟩ := hwq; go_simp <;> with_reducible rfl) | (go_simp <;> with_reducible rfl))
                          simp only [List.setIfInBounds_toArray, List.set_cons_zero, List.set_cons_succ]
                          refine wpAnyH_tkS (i := 6) 105 (v := ?_) rfl rfl (by kernel_rfl) (by kernel_rfl) (by kernel_rfl) (by rfl) hSw (fun wq hwq => ?_) ?_
                          rotate_left
                          · (first | (obtain ⟨hx1, hx2⟩ := hwq; go_simp <;> with_reducible rfl) | (go_simp <;> with_reducible rfl))
                          simp only [List.setIfInBounds_toArray, List.set_cons_zero, List.set_cons_succ]
                          refine wpAnyH_tkS (i := 7) 106 (v := ?_) rfl rfl (by kernel_rfl) (by kernel_rfl) (by kernel_rfl) (by rfl) hSw (fun wq hwq => ?_) ?_
                          rotate_left
                          · (first | (obtain ⟨hx1, hx2⟩ := hwq; go_simp <;> with_reducible rfl) | (go_simp <;> with_reducible rfl))
                          simp only [List.setIfInBounds_toArray, List.set_cons_zero, List.set_cons_succ]
                          refine wpAnyH_oneS (i := 1) rfl (by kernel_rfl) (by rfl) (fun K hK => ?_)
                          go_simp
                          refine (HTX.out _ HRd.out).mono ?_
                          rintro e w4 ⟨at4, ct4, rfl, hst4, hr4, hb4⟩
                          have HR4 := Lib.hid hr4
                          have HB4 := Lib.hid (hb4.below HBd.out HBd.out.size (by simpa using hRw))
                          have HQ4 := Lib.hid (HSV.out _ _ _ hst4)
                          rw [HLR.out]
                          refine hK.out _ _ (fun x => x = w4) (fun x hx => by subst hx; exact ⟨hb4.cell hSw.1 (by simpa using hbR), HCV.out _ HB4.out⟩) rfl ?_
                          clear hK K hr4 hb4 hSw hst4
                          refine wpAnyH_tkS (i := 2) 101 (v := ?_) rfl rfl (by kernel_rfl) (by kernel_rfl) (by kernel_rfl) (by rfl) rfl (fun wq hwq => ?_) ?_
                          rotate_left
                          · (subst hwq; have hx := HQ4.out; go_simp <;> with_reducible rfl)
                          simp only [List.setIfInBounds_toArray, List.set_cons_zero, List.set_cons_succ]
                          refine wpAnyH_tkS (i := 8) 107 (v := ?_) rfl rfl (by kernel_rfl) (by kernel_rfl) (by kernel_rfl) (by rfl) rfl (fun wq hwq => ?_) ?_
                          rotate_left
                          · (subst hwq; have hx := True.intro; go_simp <;> with_reducible rfl)
                          simp only [List.setIfInBounds_toArray, List.set_cons_zero, List.set_cons_succ]
                          refine wpAnyH_done (by kernel_rfl) ?_ _
                          refine NoPanic.normal ?_
                          go_wp2
                          go_roundw
                          case rel => exact ⟨j + 1, by omega, by go_num, HR4, HB4⟩
                          case measure => simp [intOf]; omega
                        · obtain rfl : p1 = j := by omega
                          have HMD : Hid (M.drop p1 = []) := by show _ = _; rw [← HML.out, List.drop_length]
                          have HR6 : Hid (Rdr wr R ([], false)) := by
                            have := HR.out
                            rw [HMD.out] at this
                            exact this
                          clear HR
                          go_wp2_with fail
                          refine (awake5 _).mono ?_
                          rintro e w5 ⟨rfl, hb5⟩
                          have HR7 := Lib.hid (HR6.out.below hb5)
                          have HB7 := Lib.hid (HB.out.trans (hb5.mono HB.out.size))
                          clear hb5
                          go_wp2_with fail
                          refine (a_end R _ HR7.out).mono ?_
                          rintro e w' ⟨rfl, rfl⟩
                          go_wp2
                          go_ret
                          exact ⟨rfl, HB7.out⟩
            · have d4 : decide ((q : Int) < 500) = false := by simp; omega
              have d5 : decide ((500 : Int) ≤ (q : Int)) = true := by simp; omega
              by_cases hjp : j < p1
              · have d1 : decide ((j : Int) < (len1 : Int)) = true := by simp; omega
                have d2 : decide (j < len1) = true := by simp; omega
                have d3 : decide ((j : Int) < 10) = true := by simp; omega
                go_wp2_with fail
                refine (awake5 _).mono ?_
                rintro e w3 ⟨rfl, hb3⟩
                have HB3 := Lib.hid (HB.out.trans (hb3.mono HB.out.size))
                go_wp2
                go_ret
                exact ⟨rfl, HB3.out⟩
              · obtain rfl : p1 = j := by omega
                go_wp2_with fail
                refine (awake5 _).mono ?_
                rintro e w3 ⟨rfl, hb3⟩
                have HB3 := Lib.hid (HB.out.trans (hb3.mono HB.out.size))
                go_wp2
                go_ret
                exact ⟨rfl, HB3.out⟩

end Go.Proofs.Ytjefjlalebpodaa
