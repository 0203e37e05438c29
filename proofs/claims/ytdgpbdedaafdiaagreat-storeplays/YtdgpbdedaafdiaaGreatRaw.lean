/-
  A row of the call's own by its cells; append to it, as one operation; the greater part of a list and one more.
-/
import Derived.Test.YtdgpbdedaafdiaaGreatKyM
import Derived.Test.YtdgpbdedaafdiaaGreatExt2
namespace Go.Proofs.YtdgpbdedaafdiaaGreat
open Go.RowKit

set_option maxRecDepth 100000 in
/-- append(list, more...) as one operation: cells by name, and where the row lies. -/
theorem wp_appRawAt {o : Oper} {a : Act} {K : Act → World → Prop} {Q : Exit → Act → World → Prop} {w : World} (s x : Operand) (t e : TypeId)
    (ho : o.op = .call { callee := .builtin .append, args := #[s, x], argTypes := #[t, t] })
    (ht : Tryz.prog.underlying t = some (.slice e)) (z : Value) (size bytes : Nat)
    (hinfo : (Tryz.prog.info? e).map (fun i => (i.zero, i.size, i.bytes)) = some (some z, size, bytes)) (hzs : z.cells.size = size) (hsz : 0 < size) (hbb : bytes ≤ 100)
    (base : Nat) (va : Option Addr) (vc n : Nat) (xs : List Value) (hs : a.eval s = .slice va n vc) (hown : w.ownsRow base e size (.slice va n vc) n xs)
    (xa : Option Addr) (m xc : Nat) (ys : List Value) (hx : a.eval x = .slice xa m xc) (hl : ys.length = m * size)
    (hq : ∀ j u, ys[j]? = some u → ∃ b off, xa = some ⟨b, off, none⟩ ∧ w.cell? ⟨b, off + j, none⟩ = some u) (h1 : ∀ u ∈ ys, u.oneCell' = true) (hb : n + m ≤ 1000000) (hbase : base ≤ w.heap.size)
    (h : ∀ va' vc' w', w'.ownsRow base e size (.slice va' (n + m) vc') (n + m) (xs ++ ys) → w.grownBy w' (Value.ownBlock (.slice va n vc)) → (∀ g, Value.ownBlock (.slice va' (n + m) vc') = some g → Value.ownBlock (.slice va n vc) = some g ∨ w.heap.size ≤ g) → K (a.put o.dst (.slice va' (n + m) vc')) w') : Oper.wp Tryz.prog o a w K Q := by
  obtain ⟨i, hi, hz, hsize, hby⟩ := info_parts hinfo
  by_cases h0 : m = 0
  · subst h0
    obtain rfl : ys = [] := List.length_eq_zero_iff.mp (by omega)
    have hfin := h va vc w (by rw [List.append_nil]; exact hown) ⟨rfl, rfl, rfl, Nat.le_refl _, fun i _ _ => rfl⟩ (fun g hg => .inl (by rcases va with _ | ad; simp [Value.ownBlock] at hg; simpa [Value.ownBlock] using hg))
    have hrun : (Builtin.append_ #[t, t] o.type #[.slice va n vc, .slice xa 0 xc]).run Tryz.prog w = .ok (.slice va n vc) w := by
      rcases hown.2 with ⟨hv, hn0⟩ | ⟨g, cap', cur, hv, _, _, hnc, _, _⟩
      · injection hv with e1 e2 e3
        subst e1 e2 e3
        rcases xa with _ | ad
        · simp [Builtin.append_, run_underlying ht, sizeOf, typeInfo, hi, Builtin.lenOf, Builtin.firstCells]
        · simp [Builtin.append_, run_underlying ht, sizeOf, typeInfo, hi, Builtin.lenOf, Builtin.firstCells, loadCells, loadCellsFrom]
      · injection hv with e1 e2 e3
        subst e1 e3
        rcases xa with _ | ad
        · simp [Builtin.append_, run_underlying ht, sizeOf, typeInfo, hi, Builtin.lenOf, Builtin.firstCells, hnc, storeCells]
        · simp [Builtin.append_, run_underlying ht, sizeOf, typeInfo, hi, Builtin.lenOf, Builtin.firstCells, hnc, storeCells, loadCells, loadCellsFrom]
    unfold Oper.wp
    simp [execOp, ho, resolve, invoke, builtin, hs, hx, hrun, Result.andThen]
    exact hfin
  · have hpos : 0 < m := by omega
    have hp8 : 0 < ys.length := by rw [hl]; exact Nat.mul_pos hpos hsz
    obtain ⟨b, off, rfl, _⟩ := hq 0 _ (List.getElem?_eq_getElem hp8)
    refine wp_append_lies w s x t ho base e i _ size bytes ht hi hz hsize hby hzs hsz _ _ _ hs hown ⟨b, off, none⟩ m xc ys hx hl
      (fun j u hj => ?_) h1 hpos (by unfold maxLen; omega) (Nat.le_trans (Nat.mul_le_mul hb hbb) (by omega)) hbase w.heap.size rfl ?_
    · obtain ⟨b', off', e', hc⟩ := hq j u hj
      cases e'
      rw [Go.WideShapes.add_plain]
      exact hc
    · intro g' cap' w' hown' hg hat _
      refine h (some ⟨g', 0, none⟩) cap' w' hown' hg fun g e => ?_
      have e' : g' = g := by simpa [Value.ownBlock] using e
      subst e'
      rcases hat with hat | hat
      · exact .inl hat
      · exact .inr (by omega)

/-- append(list, more...) as one operation: cells by name. -/
theorem wp_appRaw {o : Oper} {a : Act} {K : Act → World → Prop} {Q : Exit → Act → World → Prop} {w : World} (s x : Operand) (t e : TypeId)
    (ho : o.op = .call { callee := .builtin .append, args := #[s, x], argTypes := #[t, t] })
    (ht : Tryz.prog.underlying t = some (.slice e)) (z : Value) (size bytes : Nat)
    (hinfo : (Tryz.prog.info? e).map (fun i => (i.zero, i.size, i.bytes)) = some (some z, size, bytes)) (hzs : z.cells.size = size) (hsz : 0 < size) (hbb : bytes ≤ 100)
    (base : Nat) (va : Option Addr) (vc n : Nat) (xs : List Value) (hs : a.eval s = .slice va n vc) (hown : w.ownsRow base e size (.slice va n vc) n xs)
    (xa : Option Addr) (m xc : Nat) (ys : List Value) (hx : a.eval x = .slice xa m xc) (hl : ys.length = m * size)
    (hq : ∀ j u, ys[j]? = some u → ∃ b off, xa = some ⟨b, off, none⟩ ∧ w.cell? ⟨b, off + j, none⟩ = some u) (h1 : ∀ u ∈ ys, u.oneCell' = true) (hb : n + m ≤ 1000000) (hbase : base ≤ w.heap.size)
    (h : ∀ va' vc' w', w'.ownsRow base e size (.slice va' (n + m) vc') (n + m) (xs ++ ys) → w.grownBy w' (Value.ownBlock (.slice va n vc)) → K (a.put o.dst (.slice va' (n + m) vc')) w') : Oper.wp Tryz.prog o a w K Q :=
  wp_appRawAt s x t e ho ht z size bytes hinfo hzs hsz hbb base va vc n xs hs hown xa m xc ys hx hl hq h1 hb hbase fun va' vc' w' k1 k2 _ => h va' vc' w' k1 k2

/-- append(list, more...): cells by name. -/
theorem wpList_appRaw {ops : Array Oper} {rest : List Oper} {o : Oper} {a : Act} {Q : Exit → Act → World → Prop} {w : World} (hgd : o.guard = none) (s x : Operand) (t e : TypeId)
    (ho : o.op = .call { callee := .builtin .append, args := #[s, x], argTypes := #[t, t] })
    (ht : Tryz.prog.underlying t = some (.slice e)) (z : Value) (size bytes : Nat)
    (hinfo : (Tryz.prog.info? e).map (fun i => (i.zero, i.size, i.bytes)) = some (some z, size, bytes)) (hzs : z.cells.size = size) (hsz : 0 < size) (hbb : bytes ≤ 100)
    (base : Nat) (va : Option Addr) (vc n : Nat) (xs : List Value) (hs : a.eval s = .slice va n vc) (hown : w.ownsRow base e size (.slice va n vc) n xs)
    (xa : Option Addr) (m xc : Nat) (ys : List Value) (hx : a.eval x = .slice xa m xc) (hl : ys.length = m * size)
    (hq : ∀ j u, ys[j]? = some u → ∃ b off, xa = some ⟨b, off, none⟩ ∧ w.cell? ⟨b, off + j, none⟩ = some u) (h1 : ∀ u ∈ ys, u.oneCell' = true) (hb : n + m ≤ 1000000) (hbase : base ≤ w.heap.size)
    (h : ∀ va' vc' w', w'.ownsRow base e size (.slice va' (n + m) vc') (n + m) (xs ++ ys) → w.grownBy w' (Value.ownBlock (.slice va n vc)) → wpList Tryz.prog ops Q rest (a.put o.dst (.slice va' (n + m) vc')) w') :
    wpList Tryz.prog ops Q (o :: rest) a w :=
  wpList_plain hgd fun _ hK => wp_appRaw s x t e ho ht z size bytes hinfo hzs hsz hbb base va vc n xs hs hown xa m xc ys hx hl hq h1 hb hbase fun va' vc' w' h1 h2 => hK _ _ (h va' vc' w' h1 h2)

theorem row_lt {w : World} {base size n c : Nat} {e : TypeId} {a : Option Addr} {xs : List Value} (h : w.ownsRow base e size (.slice a n c) n xs) : ∀ g, Value.ownBlock (.slice a n c) = some g → base ≤ g ∧ g < w.heap.size := fun g hg => World.ownsRow.lt h g hg

/-- A row of entries by its cells; the bytes lie elsewhere. -/
theorem ens_row {w : World} {base n c : Nat} {a : Option Addr} {xs : List El} (h : w.ownsRow base 41 8 (.slice a n c) n (evals xs)) (hn : xs.length = n) (hs : ∀ x ∈ xs, SeenAt w x.loc x.cap x.p.frag) (hw : ∀ x ∈ xs, x.p.Wf) : EnsAt w a c (xs.map (·.p)) := by
  subst hn
  rcases h.2 with ⟨hv, h0⟩ | ⟨g, cap', cur, hv, _, hg, hnc, hcm, _⟩
  · have e0 : xs = [] := List.length_eq_zero_iff.mp h0
    subst e0
    cases hv
    exact EnsAt.nil (Nat.zero_le _)
  · cases hv
    refine ⟨by simpa using hnc, hcm, fun i hi => ?_, fun e he => ?_⟩
    · have hi' : i < xs.length := by simpa using hi
      have e : (xs.map (·.p)).getD i pe0 = (xs.getD i el0).p := by
        rw [List.getD_eq_getElem?_getD, List.getD_eq_getElem?_getD, List.getElem?_map, List.getElem?_eq_getElem hi']; rfl
      rw [e]
      have hc : ∀ k, k < 8 → w.cell? ⟨g, 0 + i * 8 + k, none⟩ = (ecells (xs.getD i el0))[k]? := fun k hk => by
        rw [Nat.zero_add, World.ownsRow.cellAt h (i * 8 + k) (by omega), evals_at xs i k hi' hk]
      exact ⟨g, 0, (xs.getD i el0).loc, (xs.getD i el0).cap, rfl, hc 0 (by omega), hc 1 (by omega), hc 2 (by omega), hc 3 (by omega), hc 4 (by omega), hc 5 (by omega), hc 6 (by omega), hc 7 (by omega), hs _ (getD_mem xs i el0 hi')⟩
    · obtain ⟨x, hx', rfl⟩ := List.mem_map.mp he
      exact hw x hx'

theorem evals_len (xs : List El) : (evals xs).length = xs.length * 8 := by
  induction xs with
  | nil => rfl
  | cons x xs ih =>
    show (ecells x ++ evals xs).length = _
    rw [List.length_append, ih, List.length_cons]
    simp [ecells]
    omega

theorem evals_one (xs : List El) : ∀ u ∈ evals xs, u.oneCell' = true := by
  induction xs with
  | nil => intro u hu; cases hu
  | cons x xs ih =>
    intro u hu
    rcases List.mem_append.mp hu with h | h
    · simp [ecells] at h
      rcases h with rfl | rfl | rfl | rfl | rfl | rfl | rfl | rfl <;> rfl
    · exact ih u h

/-- The cells of a row of the call's own. -/
theorem row_cells {w : World} {base size n c : Nat} {e : TypeId} {a : Option Addr} {xs : List Value} (h : w.ownsRow base e size (.slice a n c) n xs) (hl : xs.length = n * size) : ∀ j u, xs[j]? = some u → ∃ b off, a = some ⟨b, off, none⟩ ∧ w.cell? ⟨b, off + j, none⟩ = some u := fun j u hj => by
  have hlt : j < xs.length := by
    rcases Nat.lt_or_ge j xs.length with h | h
    · exact h
    · rw [List.getElem?_eq_none h] at hj; cases hj
  rcases h.2 with ⟨hv, h0⟩ | ⟨g, cap', cur, hv, _⟩
  · rw [hl, h0, Nat.zero_mul] at hlt; omega
  · cases hv
    refine ⟨g, 0, rfl, ?_⟩
    rw [Nat.zero_add, World.ownsRow.cellAt h j (by rw [← hl]; exact hlt)]
    exact hj

theorem row_lit (w : World) (base B : Nat) (e : TypeId) (size : Nat) (hB : w.heap.size = B) (hb : base ≤ w.heap.size) : (w.alloc (.cells #[] e)).ownsRow base e size (.slice (some ⟨B, 0, none⟩) 0 0) 0 [] := by
  subst hB
  exact World.ownsRow_lit (base := base) (e := e) (size := size) w #[] 0 hb (by unfold maxLen; omega) (by simp)

theorem fin_row {w : World} {base n c : Nat} {a : Option Addr} {xs : List El} {es : List Pe} {y : El} (h : w.ownsRow base 41 8 (.slice a (n + 1) c) (n + 1) (evals xs ++ ecells y)) (hn : xs.length = n) (hx : xs.map (·.p) = es) (hs : ∀ x ∈ xs, SeenAt w x.loc x.cap x.p.frag) (hw : ∀ x ∈ xs, x.p.Wf) (hy : SeenAt w y.loc y.cap y.p.frag) (hyw : y.p.Wf) : EnsAt w a c (es ++ [y.p]) := by
  have e1 : evals xs ++ ecells y = evals (xs ++ [y]) := by
    rw [evals_app]
    show _ = evals xs ++ (ecells y ++ [])
    rw [List.append_nil]
  rw [e1] at h
  have := ens_row h (by rw [List.length_append, hn]; rfl) (fun x hx => by
    rcases List.mem_append.mp hx with hx | hx
    · exact hs x hx
    · rw [List.mem_singleton.mp hx]; exact hy) (fun x hx => by
    rcases List.mem_append.mp hx with hx | hx
    · exact hw x hx
    · rw [List.mem_singleton.mp hx]; exact hyw)
  rw [List.map_append, hx] at this
  exact this

end Go.Proofs.YtdgpbdedaafdiaaGreat
