/-
  Layer 3: the reference's Same of unlike grids; lists of fragments one of whose bytes are put anew.
-/
import Derived.Test.YtnhledngeicekaaLaw32
namespace Go.Proofs.Ytnhledngeicekaa
open Go.RowKit

theorem strB_fold (ps : List Nat) (b : ByteArray) : ((ps.map fun (c : Nat) => (c : Int)).foldl (fun r n => r.push (UInt8.ofNat n.toNat)) b).data.toList = b.data.toList ++ ps.map UInt8.ofNat := by
  induction ps generalizing b with
  | nil => simp
  | cons c ps ih => simp [ih]

theorem strB_list (ps : List Nat) : (strB ps).data.toList = ps.map UInt8.ofNat := by
  unfold strB
  rw [strB_fold]
  rfl

theorem ofNat_inj : ∀ (ps qs : List Nat), Gf.Bytes ps → Gf.Bytes qs → ps.map UInt8.ofNat = qs.map UInt8.ofNat → ps = qs
  | [], [], _, _, _ => rfl
  | [], d :: qs, _, _, h => by simp at h
  | c :: ps, [], _, _, h => by simp at h
  | c :: ps, d :: qs, hp, hq, h => by
    simp only [List.map_cons, List.cons.injEq] at h
    have hc := hp c (List.mem_cons_self ..)
    have hd := hq d (List.mem_cons_self ..)
    have e : c = d := by
      have := congrArg UInt8.toNat h.1
      rwa [UInt8.toNat_ofNat', UInt8.toNat_ofNat', Nat.mod_eq_of_lt (by omega), Nat.mod_eq_of_lt (by omega)] at this
    rw [e, ofNat_inj ps qs (fun x hx => hp x (List.mem_cons_of_mem _ hx)) (fun x hx => hq x (List.mem_cons_of_mem _ hx)) h.2]

/-- Unlike bytes make unlike strings. -/
theorem strB_inj {ps qs : List Nat} (hp : Gf.Bytes ps) (hq : Gf.Bytes qs) (h : strB ps = strB qs) : ps = qs :=
  ofNat_inj ps qs hp hq (by rw [← strB_list, ← strB_list, h])

set_option maxRecDepth 100000 in
set_option maxHeartbeats 2000000 in
theorem same_no (va vb : Option Addr) (vc vd l : Nat) (m m' : List (List Nat)) (w : World) (hA : GridAt w va vc m) (hB : GridAt w vb vd m') (hl : m.length = l) (hl' : m'.length = l) (hne : m ≠ m') :
    Calls Try.prog 19 #[.slice va l vc, .slice vb l vd] w fun e w' => e = .returned (.bool false) ∧ Below w.heap.size w w' := by
  have HA := Lib.hid hA
  have HB := Lib.hid hB
  have HL := Lib.hid hl
  have HL' := Lib.hid hl'
  have HNE := Lib.hid hne
  have hm := Nat.le_trans hA.le hA.max
  rw [hl] at hm
  unfold maxLen at hm
  clear hA hB hl hl' hne
  have t0 : ((l : Int) != (l : Int)) = false := by simp
  go_enter Try.func19, Try.ntmps19
  go_wp2
  clear t0
  go_loopw [5] (fun i ws => ∃ j n : Nat, j ≤ l ∧ i = .int .i64 j ∧ ws = w.drewN n ∧ Hid (∀ q, q < j → m.getD q [] = m'.getD q [])) (fun i _ => l - (intOf i).toNat)
  case atStart => exact ⟨0, 0, Nat.zero_le _, rfl, rfl, fun q hq => by omega⟩
  case round =>
    obtain ⟨j, n, hj, rfl, hws, hE⟩ := hrel
    have HW := Lib.hid hws
    by_cases hlt : j < l
    · obtain ⟨b, off, ra, rc, e, hc0, hS0⟩ := HA.out.at j (by rw [HL.out]; exact hlt)
      subst e
      obtain ⟨b', off', ra', rc', e, hc0', hS0'⟩ := HB.out.at j (by rw [HL'.out]; exact hlt)
      subst e
      have hc : wr.cell? ⟨b, off + j, none⟩ = some (.slice ra (m.getD j []).length rc) := by rw [hws]; exact hc0
      have hc' : wr.cell? ⟨b', off' + j, none⟩ = some (.slice ra' (m'.getD j []).length rc') := by rw [hws]; exact hc0'
      have hs : ∀ q, (convert 28 9 (.slice ra (m.getD j []).length rc)).run Try.prog (wr.drewN q) = .ok (.string (strB (m.getD j []))) (wr.drewN q) := by
        intro q; rw [hws, World.drewN_drewN]; exact str_of (hS0.drewN _)
      have hs' : ∀ q, (convert 28 9 (.slice ra' (m'.getD j []).length rc')).run Try.prog (wr.drewN q) = .ok (.string (strB (m'.getD j []))) (wr.drewN q) := by
        intro q; rw [hws, World.drewN_drewN]; exact str_of (hS0'.drewN _)
      have hj0 : (0 : Int) ≤ (j : Int) := by omega
      have hj1 : (j : Int) < (l : Int) := by omega
      by_cases he : m.getD j [] = m'.getD j []
      · have HE : Hid (∀ q, q < j + 1 → m.getD q [] = m'.getD q []) := fun q hq => by
          by_cases e : q = j
          · subst e; exact he
          · exact hE.out q (by omega)
        rw [← he] at hc' hs'
        clear hws hc0 hc0' hS0 hS0' he
        generalize strB (m.getD j []) = st at *
        generalize (m.getD j []).length = q at *
        go_wp2
        go_quiet (fail)
        go_wp2
        go_round
        case rel => exact ⟨j + 1, n + nq, by omega, by go_num, by rw [HW.out, World.drewN_drewN], HE⟩
        case measure => simp [intOf]; omega
      · have hne : ¬ strB (m.getD j []) = strB (m'.getD j []) := fun e => he (strB_inj hS0.byte hS0'.byte e)
        clear hws hc0 hc0' hS0 hS0' he
        generalize strB (m.getD j []) = st at *
        generalize strB (m'.getD j []) = st' at *
        generalize (m.getD j []).length = q at *
        generalize (m'.getD j []).length = q' at *
        have t1 : (st.toList == st'.toList) = false := by
          cases hh : (st.toList == st'.toList) with
          | false => rfl
          | true =>
            have e := eq_of_beq hh
            rw [ByteArray.toList_eq, ByteArray.toList_eq] at e
            exact absurd (Go.WideShapes.bytes_inj e) hne
        clear hne
        go_wp2
        go_quiet (fail)
        go_wp2
        go_ret
        exact ⟨rfl, by rw [HW.out, World.drewN_drewN]; exact below_drewN _ _⟩
    · exfalso
      refine HNE.out (getD_congr _ _ [] (by rw [HL.out, HL'.out]) fun i hi => hE.out i ?_)
      rw [HL.out] at hi
      omega

/-- Fragments in a row of the call's own. -/
theorem frs_of {w : World} {base g cap : Nat} {fs : List Fr} {n : Nat} (hn : fs.length = n) (own : w.ownsRow base 38 2 (.slice (some ⟨g, 0, none⟩) n cap) n (fvals fs)) (seen : ∀ f ∈ fs, SeenAt w f.loc f.cap f.data) (wf : ∀ f ∈ fs, (Lit.int .i64 f.pos).wf = true) : FrsAt w (some ⟨g, 0, none⟩) cap fs := by
  rcases own.2 with ⟨hv, _⟩ | ⟨g', cap', cur, hv, _, hg, hnc, hcm, _⟩
  · cases hv
  · cases hv
    refine ⟨by rw [hn]; exact hnc, hcm, fun i hi => ⟨g, 0, rfl, ?_, ?_, seen _ (getD_mem fs i fr0 hi)⟩, wf⟩
    · rw [Nat.zero_add, World.ownsRow.cellAt own (i * 2) (by omega)]; exact fvals_pos fs i hi
    · rw [Nat.zero_add, World.ownsRow.cellAt own (i * 2 + 1) (by omega)]; exact fvals_data fs i hi

theorem fvals_set : ∀ (fs : List Fr) (c : Nat) (f : Fr), c < fs.length → f.pos = (fs.getD c fr0).pos → (fvals fs).set (c * 2 + 1) (.slice f.loc f.data.length f.cap) = fvals (fs.set c f)
  | [], c, f, h, _ => by simp at h
  | e :: fs, 0, f, _, hp => by
    have : f.pos = e.pos := hp
    simp [fvals, this]
  | e :: fs, c + 1, f, h, hp => by
    have ih := fvals_set fs c f (by simpa using h) (by simpa using hp)
    rw [show (c + 1) * 2 + 1 = c * 2 + 1 + 1 + 1 by omega]
    simp [fvals, ih]

/-- Unlike positions: each is the first. -/
theorem firsts_self (fs : List Fr) (h : (poss fs).Nodup) : firsts fs = fs := by
  have : ∀ (n : Nat), n ≤ fs.length → firsts (fs.take n) = fs.take n := by
    intro n
    induction n with
    | zero => intro _; rfl
    | succ n ih =>
      intro hn
      rw [firsts_step fs n (by omega), ih (by omega), take_snoc fs n fr0 (by omega)]
      unfold fst1
      rw [if_neg]
      intro hc
      have hc' : (fs.getD n fr0).pos ∈ (fs.take n).map (·.pos) := by simpa using hc
      have e : poss fs = (fs.take n).map (·.pos) ++ (fs.drop n).map (·.pos) := by rw [← List.map_append, List.take_append_drop]; rfl
      rw [e, List.nodup_append] at h
      refine h.2.2 _ hc' _ ?_ rfl
      rw [List.drop_eq_getElem_cons (by omega)]
      have e2 : fs.getD n fr0 = fs[n] := by rw [List.getD_eq_getElem?_getD, List.getElem?_eq_getElem (by omega)]; rfl
      rw [e2]
      exact List.mem_map.mpr ⟨fs[n], List.mem_cons_self .., rfl⟩
  have := this fs.length (Nat.le_refl _)
  rwa [List.take_of_length_le (Nat.le_refl _)] at this

end Go.Proofs.Ytnhledngeicekaa
