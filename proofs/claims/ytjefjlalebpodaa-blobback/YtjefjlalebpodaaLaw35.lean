/-
  The walk of the law RsAny.
-/
import Derived.Test.YtjefjlalebpodaaAnyMem
namespace Go.Proofs.Ytjefjlalebpodaa
open Go.RowKit

/-- An append in a plain region, by what it runs to. -/
theorem wpList_run_append {ops : Array Oper} {rest : List Oper} {o : Oper} {a : Act} {Q : Exit → Act → World → Prop} {w : World} (hgd : o.guard = none) (s x : Operand) (t : TypeId)
    (ho : o.op = .call { callee := .builtin .append, args := #[s, x], argTypes := #[t, t] }) (sv xv v : Value) (w' : World) (hs : a.eval s = sv) (hx : a.eval x = xv) (hrun : (Builtin.append_ #[t, t] o.type #[sv, xv]).run Try.prog w = .ok v w') (h : wpList Try.prog ops Q rest (a.put o.dst v) w') :
    wpList Try.prog ops Q (o :: rest) a w := by
  refine wpList_plain hgd fun K hK => ?_
  unfold Oper.wp execOp
  simp only [ho, resolve, invoke, builtin, Sem.run_bind, Sem.run_pure, Result.andThen_ok, List.map_toArray, List.map_cons, List.map_nil, hs, hx, hrun]
  exact hK _ _ h

/-- While fragments are picked: xs are the positions that are left, fs the list so far. -/
structure PickA (w2 ws : World) (gL cL g cp N i k0 : Nat) (s : List (List Nat)) (xs : List Nat) (fs : List Fr) : Prop where
  left : OwnI ws w2.heap.size gL cL xs
  list : OldF w2 ws (.slice (some ⟨g, 0, none⟩) i cp) fs
  flen : fs.length = i
  xnd : xs.Nodup
  xlt : ∀ x ∈ xs, x < N
  el : ∀ f ∈ fs, ∃ p, p < N ∧ f.pos = ((p : Nat) : Int) ∧ p ∉ xs ∧ f.data = frag s p
  nd : (poss fs).Nodup

theorem PickA.ne {w2 ws : World} {gL cL g cp N i k0 : Nat} {s : List (List Nat)} {xs : List Nat} {fs : List Fr} (h : PickA w2 ws gL cL g cp N i k0 s xs fs) : gL ≠ g := by
  have o := h.list.own
  rw [h.flen] at o
  exact owns_ne h.left o (by decide)

/-- One is taken out. -/
def outOf (xs : List Nat) (t : Nat) : List Nat := xs.take t ++ xs.drop (t + 1)
theorem outOf_mem {xs : List Nat} {t x : Nat} (h : x ∈ outOf xs t) : x ∈ xs := by
  rcases List.mem_append.mp h with h | h
  · exact List.mem_of_mem_take h
  · exact List.mem_of_mem_drop h
theorem outOf_nodup {xs : List Nat} (t : Nat) (h : xs.Nodup) : (outOf xs t).Nodup :=
  h.sublist (by
    have : outOf xs t = xs.eraseIdx t := (List.eraseIdx_eq_take_drop_succ xs t).symm
    rw [this]
    exact List.eraseIdx_sublist xs t)
theorem outOf_not {xs : List Nat} {t : Nat} (h : xs.Nodup) (ht : t < xs.length) : xs.getD t 0 ∉ outOf xs t := by
  have e : xs = xs.take t ++ (xs.getD t 0 :: xs.drop (t + 1)) := by
    rw [List.getD_eq_getElem?_getD, List.getElem?_eq_getElem ht]
    show xs = xs.take t ++ (xs[t] :: xs.drop (t + 1))
    rw [← List.drop_eq_getElem_cons ht, List.take_append_drop]
  have h' := h
  rw [e, List.nodup_append] at h'
  intro hm
  rcases List.mem_append.mp hm with hm | hm
  · exact h'.2.2 _ hm _ (List.mem_cons_self ..) rfl
  · exact (List.nodup_cons.mp h'.2.1).1 hm

theorem PickA.step {w2 wr w4 w6 : World} {gL cL g cp N i k0 g' cp' g2 c2 t : Nat} {s : List (List Nat)} {xs : List Nat} {fs : List Fr} {f : Fr} (h : PickA w2 wr gL cL g cp N i k0 s xs fs) (ht : t < xs.length) (hf : f.pos = ((xs.getD t 0 : Nat) : Int)) (hd : f.data = frag s (xs.getD t 0))
    (hL4 : OldF w2 w4 (.slice (some ⟨g', 0, none⟩) (i + 1) cp') (fs ++ [f])) (hb6 : Below w4.heap.size w4 w6) (hI6 : OwnI w6 w2.heap.size g2 c2 (outOf xs t)) : PickA w2 w6 g2 c2 g' cp' N (i + 1) k0 s (outOf xs t) (fs ++ [f]) where
  left := hI6
  list := hL4.below hb6
  flen := by rw [List.length_append, h.flen]; rfl
  xnd := outOf_nodup t h.xnd
  xlt x hx := h.xlt x (outOf_mem hx)
  el e he := by
    rcases List.mem_append.mp he with he | he
    · obtain ⟨p, h1, h2, h3, h4⟩ := h.el e he
      exact ⟨p, h1, h2, fun hm => h3 (outOf_mem hm), h4⟩
    · rw [List.mem_singleton.mp he]
      exact ⟨_, h.xlt _ (getD_mem xs t 0 ht), hf, outOf_not h.xnd ht, hd⟩
  nd := by
    have e : poss (fs ++ [f]) = poss fs ++ [f.pos] := by simp [poss]
    rw [e, List.nodup_append]
    refine ⟨h.nd, by simp, fun a ha b hb => ?_⟩
    rw [List.mem_singleton.mp hb]
    rintro rfl
    obtain ⟨e2, he2, hp⟩ := List.mem_map.mp ha
    obtain ⟨p, _, h2, h3, _⟩ := h.el e2 he2
    have hp' : e2.pos = f.pos := hp
    rw [h2, hf] at hp'
    have : p = xs.getD t 0 := by omega
    rw [this] at h3
    exact h3 (getD_mem xs t 0 ht)

/-- What taking one out of the row runs to. -/
theorem any_out {W : World} {base gL cL r t : Nat} {xs : List Nat} (hI : OwnI W base gL cL xs) (hX : xs.length = r) (ht : t < r) (hr : r ≤ 1000) (hbase : base ≤ W.heap.size) :
    ∃ g1 c1 w5 g2 c2 w6, (Builtin.append_ #[29, 29] 29 #[.slice (some ⟨W.heap.size, 0, none⟩) 0 0, .slice (some ⟨gL, 0, none⟩) t cL]).run Try.prog (W.drew.alloc (.cells #[] 3)) = .ok (.slice (some ⟨g1, 0, none⟩) t c1) w5 ∧
      (Builtin.append_ #[29, 29] 29 #[.slice (some ⟨g1, 0, none⟩) t c1, .slice (if cL = t + 1 then some ⟨gL, 0, none⟩ else some ⟨gL, t + 1, none⟩) (r - (t + 1)) (cL - (t + 1))]).run Try.prog w5 = .ok (.slice (some ⟨g2, 0, none⟩) (t + (r - (t + 1))) c2) w6 ∧
      OwnI w6 base g2 c2 (outOf xs t) ∧ Below W.heap.size W w6 := by
  have hId : OwnI W.drew base gL cL xs := hI.chg (gs := []) (Chg.refl _ _).drew (by simp)
  have hI1 : OwnI (W.drew.alloc (.cells #[] 3)) base gL cL xs := hId.below (below_one _ _)
  have h0 := ownI_none W.drew base hbase
  have hlt := hI.lt.2
  obtain ⟨g1, c1, w5, hr1, hJ1, hC1, hat1⟩ := run_appI (W.drew.alloc (.cells #[] 3)) 29 base W.heap.size 0 0 t gL 0 cL [] (xs.take t) rfl (by rw [List.length_take]; omega) h0 (fun j hj => by
    rw [Nat.zero_add, hI1.cell j (by omega), List.getD_eq_getElem?_getD, List.getD_eq_getElem?_getD, List.getElem?_take_of_lt hj]) (by omega) (by simp; show _ ≤ W.heap.size + 1; omega)
  rw [Nat.zero_add] at hr1
  rw [List.nil_append] at hJ1
  have hI5 : OwnI w5 base gL cL xs := hI1.chg hC1 (by simp; omega)
  have hz5 := hC1.size
  have hz5' : W.heap.size + 1 ≤ w5.heap.size := by simpa using hz5
  have hsrc : ∀ j, j < r - (t + 1) → w5.cell? ⟨gL, t + 1 + j, none⟩ = some (.int .i64 (((xs.drop (t + 1)).getD j 0 : Nat) : Int)) := fun j hj => by
    rw [hI5.cell (t + 1 + j) (by omega), List.getD_eq_getElem?_getD, List.getD_eq_getElem?_getD, List.getElem?_drop]
  have hb5 : Below W.heap.size W w5 := hC1.below ((below_same (Below.refl W.heap.size W) (b := W.drew) rfl rfl rfl rfl).alloc (Nat.le_refl _) _) (by first | (simp; done) | (simp; show _ ≤ W.heap.size + 1; omega)) (by simp)
  have hg1 : W.heap.size ≤ g1 := by
    rcases hat1 with h | h
    · omega
    · have h' : W.heap.size + 1 ≤ g1 := by simpa using h
      omega
  by_cases hc : cL = t + 1
  · have hcl := hI.cap_le.1
    obtain ⟨g2, c2, w6, hr2, hJ2, hC2, _⟩ := run_appI w5 29 base g1 c1 t (r - (t + 1)) gL 0 (cL - (t + 1)) (xs.take t) (xs.drop (t + 1)) (by rw [List.length_take]; omega) (by rw [List.length_drop]; omega) hJ1 (fun j hj => by omega) (by omega) (by omega)
    exact ⟨g1, c1, w5, g2, c2, w6, hr1, by rw [if_pos hc]; exact hr2, hJ2, hC2.below hb5 (by omega) (by simp; exact hg1)⟩
  · obtain ⟨g2, c2, w6, hr2, hJ2, hC2, _⟩ := run_appI w5 29 base g1 c1 t (r - (t + 1)) gL (t + 1) (cL - (t + 1)) (xs.take t) (xs.drop (t + 1)) (by rw [List.length_take]; omega) (by rw [List.length_drop]; omega) hJ1 hsrc (by omega) (by omega)
    exact ⟨g1, c1, w5, g2, c2, w6, hr1, by rw [if_neg hc]; exact hr2, hJ2, hC2.below hb5 (by omega) (by simp; exact hg1)⟩

theorem outOf_len {xs : List Nat} {t r : Nat} (h : xs.length = r) (ht : t < r) : (outOf xs t).length = t + (r - (t + 1)) := by
  unfold outOf
  rw [List.length_append, List.length_take, List.length_drop]
  omega

/-- All are picked: what lies behind the list is s. -/
theorem any_good {w2 ws : World} {gL cL g cp N l k0 : Nat} {s : List (List Nat)} {xs : List Nat} {fs : List Fr} (h : PickA w2 ws gL cL g cp N l k0 s xs fs) (hl : 1 ≤ l) (hs : s.length = l) (es : Ev s) (bs : Mt.By s) (hk0 : (s.getD 0 []).length = k0) {a : Option Addr} {cap : Nat} (hF : FrsAt ws a cap fs) :
    Good N fs ∧ (firsts fs).length = l ∧ (fs.getD 0 fr0).data.length = k0 ∧ ∀ T, Behind l N ((firsts fs).take l) T → T = s := by
  have hlen : ∀ f ∈ fs, f.data.length = k0 := fun f hf => by
    obtain ⟨p, _, _, _, h4⟩ := h.el f hf
    rw [h4, frag_len, hk0]
  have h0 : (fs.getD 0 fr0).data.length = k0 := hlen _ (getD_mem fs 0 fr0 (by rw [h.flen]; omega))
  have hg : Good N fs := fun i hi => by
    have hm := getD_mem fs i fr0 hi
    obtain ⟨p, h1, h2, _, _⟩ := h.el _ hm
    exact ⟨by rw [h2]; omega, by rw [hlen _ hm, h0]⟩
  have hself := firsts_self fs h.nd
  refine ⟨hg, by rw [hself, h.flen], h0, fun T hB => ?_⟩
  have hch := chosen_of (k := l) hg (by rw [hself, h.flen]; exact Nat.le_refl _)
  rw [hself, List.take_of_length_le (by rw [h.flen]; exact Nat.le_refl _)] at hB hch
  rw [h0] at hch
  refine hB.only hch (by omega) (hch.by hF h.flen) hs (fun i hi => by rw [es i (by omega), hk0]) bs (fun i hi => ?_)
  obtain ⟨p, _, h2, _, h4⟩ := h.el _ (getD_mem fs i fr0 (by rw [h.flen]; exact hi))
  rw [h2, h4]
  rfl

end Go.Proofs.Ytjefjlalebpodaa
