/-
  A region that draws its order, with calls that turn old memory too: a condition S that all its operations keep; behind a call a stronger one may take its place.
-/
import Derived.Test.YtdgpbdedaafdiaaGreatExt
namespace Go.Proofs.YtdgpbdedaafdiaaGreat
open Go.RowKit

section
variable {P : Program} {ops : Array Oper} {Q : Exit → Act → World → Prop} {md : Region.Mode} {S : World → Prop}

theorem wp_region_S2 {id : Nat} {a : Act} {w : World} (S : World → Prop) (hm : P.follows .mixedOrders = true)
    (h : wpAnyH P .any ops (NoPanic Q) S ops.size (Array.replicate ops.size false) a w.drew) : (Code.region id ops true).wp P Q a w :=
  wp_region_noPanic (wp_region_held hm h)

/-- Take number i first: it yields v in every world that meets S. -/
theorem wpAnyH_tkS2 {i : Nat} (d : Nat) {oi : Oper} {v : Value} {fuel : Nat} {listed : Array Bool} {a : Act} {w : World} (hi : ops[i]? = some oi) (hd : oi.dst = some d)
    (hs : Region.noSelect ops = true) (hf : Region.free md ops listed i = true) (hr : (Region.ready md ops listed).contains i = true)
    (hw : Region.wanted oi (yielded ops a.tmps) = true) (hS : S w) (hv : ∀ w', S w' → (execOp a.eval oi).run P w' = .ok (.value v) w')
    (h : wpAnyH P md ops (NoPanic Q) S fuel (listed.setIfInBounds i true) ⟨a.tmps.setIfInBounds d v, a.defers⟩ w) : wpAnyH P md ops (NoPanic Q) S (fuel + 1) listed a w :=
  wpAnyH_take hi hs hf hr (fun _ _ _ h => h) (.inl ⟨hw, hv⟩) hS (by rw [hd]; exact h)

/-- Number i is under a guard that says no. -/
theorem wpAnyH_notS2 {i : Nat} (d : Nat) {oi : Oper} {fuel : Nat} {listed : Array Bool} {a : Act} {w : World} (hi : ops[i]? = some oi) (hd : oi.dst = some d)
    (hs : Region.noSelect ops = true) (hf : Region.free md ops listed i = true) (hr : (Region.ready md ops listed).contains i = true)
    (hw : Region.wanted oi (yielded ops a.tmps) = false) (hS : S w)
    (h : wpAnyH P md ops (NoPanic Q) S fuel (listed.setIfInBounds i true) ⟨a.tmps.setIfInBounds d undef, a.defers⟩ w) : wpAnyH P md ops (NoPanic Q) S (fuel + 1) listed a w :=
  wpAnyH_take hi hs hf hr (fun _ _ _ h => h) (.inr ⟨hw, rfl⟩) hS (by rw [hd]; exact h)

/-- Number i alone may come up: a call; behind it the condition may be a stronger one. -/
theorem wpAnyH_oneS2 {i : Nat} {o : Oper} {fuel : Nat} {listed : Array Bool} {a : Act} {w : World} (ho : ops[i]? = some o) (hr : Region.ready md ops listed = [i])
    (hw : Region.wanted o (yielded ops a.tmps) = true)
    (h : ∀ K' : Act → World → Prop, Shut (∀ a w' (S' : World → Prop), (∀ x, S' x → S x) → S' w' → wpAnyH P md ops (NoPanic Q) S' fuel (listed.setIfInBounds i true) a w' → K' a w') → Oper.wp P o a w K' (NoPanic Q)) :
    wpAnyH P md ops (NoPanic Q) S (fuel + 1) listed a w := by
  refine wpAnyH_all hr (by simp) fun j hj => ?_
  obtain rfl : j = i := by simpa using hj
  refine wpOp_step ho fun K' hK => ?_
  rw [if_pos hw]
  exact h K' fun a w' S' hE hW hH => hK a w' ⟨hE w' hW, wpAnyH_more hE _ _ _ _ hH⟩

/-- Two may come up, i or j. -/
theorem wpAnyH_twoS2 {i j : Nat} {oi oj : Oper} {fuel : Nat} {listed : Array Bool} {a : Act} {w : World} (hi : ops[i]? = some oi) (hj : ops[j]? = some oj) (hr : Region.ready md ops listed = [i, j])
    (hwi : Region.wanted oi (yielded ops a.tmps) = true) (hwj : Region.wanted oj (yielded ops a.tmps) = true)
    (h1 : ∀ K' : Act → World → Prop, Shut (∀ a w' (S' : World → Prop), (∀ x, S' x → S x) → S' w' → wpAnyH P md ops (NoPanic Q) S' fuel (listed.setIfInBounds i true) a w' → K' a w') → Oper.wp P oi a w K' (NoPanic Q))
    (h2 : ∀ K' : Act → World → Prop, Shut (∀ a w' (S' : World → Prop), (∀ x, S' x → S x) → S' w' → wpAnyH P md ops (NoPanic Q) S' fuel (listed.setIfInBounds j true) a w' → K' a w') → Oper.wp P oj a w K' (NoPanic Q)) :
    wpAnyH P md ops (NoPanic Q) S (fuel + 1) listed a w := by
  refine wpAnyH_all hr (by simp) fun q hq => ?_
  have hq' : q = i ∨ q = j := by simpa using hq
  rcases hq' with rfl | rfl
  · refine wpOp_step hi fun K' hK => ?_
    rw [if_pos hwi]
    exact h1 K' fun a w' S' hE hW hH => hK a w' ⟨hE w' hW, wpAnyH_more hE _ _ _ _ hH⟩
  · refine wpOp_step hj fun K' hK => ?_
    rw [if_pos hwj]
    exact h2 K' fun a w' S' hE hW hH => hK a w' ⟨hE w' hW, wpAnyH_more hE _ _ _ _ hH⟩

end

/-- append(s, x...) as one operation: bytes, s of the call's own, x whatever. -/
theorem wp_appB {o : Oper} {a : Act} {K : Act → World → Prop} {Q : Exit → Act → World → Prop} {w : World} (s x : Operand)
    (ho : o.op = .call { callee := .builtin .append, args := #[s, x], argTypes := #[39, 39] })
    (base g cap : Nat) (ps qs : List Nat) (hs : a.eval s = .slice (some ⟨g, 0, none⟩) ps.length cap) (hown : OwnB w base g cap ps)
    (xa : Option Addr) (xc : Nat) (hx : a.eval x = .slice xa qs.length xc) (hq : SeenAt w xa xc qs) (hb : ps.length + qs.length ≤ 1000000000) (hbase : base ≤ w.heap.size)
    (h : ∀ g' cap' w', OwnB w' base g' cap' (ps ++ qs) → Chg [g] w w' → (g' = g ∨ w.heap.size ≤ g') → K (a.put o.dst (.slice (some ⟨g', 0, none⟩) (ps ++ qs).length cap')) w') :
    Oper.wp Tryz.prog o a w K Q := by
  obtain ⟨i, hi, hz, hsz, hby⟩ := info8
  by_cases h0 : qs = []
  · subst h0
    have hfin := h g cap w (by rw [List.append_nil]; exact hown) (Chg.refl _ _) (.inl rfl)
    rw [List.append_nil] at hfin
    have hrun : (Builtin.append_ #[39, 39] o.type #[.slice (some ⟨g, 0, none⟩) ps.length cap, .slice xa 0 xc]).run Tryz.prog w = .ok (.slice (some ⟨g, 0, none⟩) ps.length cap) w := by
      have hc := hown.cap_le.1
      rcases xa with _ | ad
      · simp [Builtin.append_, run_underlying Tryz.underlying39, sizeOf, typeInfo, hi, Builtin.lenOf, Builtin.firstCells, hc, storeCells]
      · simp [Builtin.append_, run_underlying Tryz.underlying39, sizeOf, typeInfo, hi, Builtin.lenOf, Builtin.firstCells, hc, storeCells, loadCells, loadCellsFrom]
    have hx2 : a.eval x = .slice xa 0 xc := hx
    unfold Oper.wp
    simp [execOp, ho, resolve, invoke, builtin, hs, hx2, hrun, Result.andThen]
    exact hfin
  · have hpos : 0 < qs.length := by cases qs with | nil => exact absurd rfl h0 | cons c q => simp
    obtain ⟨b, off, rfl, _⟩ := hq.cell 0 hpos
    refine wp_append_lies w s x 39 ho base 5 i (.int .u8 0) 1 1 Tryz.underlying39 hi hz hsz hby rfl (by omega) _ _ _ hs hown.own ⟨b, off, none⟩ qs.length xc (vals qs) hx (by rw [vals_len]; omega)
      (fun j u hj => ?_) (vals_one qs) hpos (by unfold maxLen; omega) (by omega) hbase w.heap.size rfl ?_
    · have hl : j < qs.length := by
        rcases Nat.lt_or_ge j qs.length with hlt | hge
        · exact hlt
        · rw [List.getElem?_eq_none (by rw [vals_len]; exact hge)] at hj; cases hj
      rw [vals_at qs j hl] at hj
      rw [← hj, Go.WideShapes.add_plain]
      obtain ⟨b', off', e, hc⟩ := hq.cell j hl
      cases e
      exact hc
    · intro g' cap' w' hown' hg hat hlt
      rw [← List.length_append]
      refine h g' cap' w' ⟨?_, bytes_app hown.byte hq.byte⟩ (Chg.of_grown hg) ?_
      · rw [vals_app, List.length_append]
        exact hown'
      · rcases hat with hat | hat
        · left; cases hat; rfl
        · right; omega

end Go.Proofs.YtdgpbdedaafdiaaGreat
