/-
  Maps of places at the operations: store, delete, look up.
-/
import Derived.Test.YtdifnipjmnbojaaKyM
import Derived.Maps.RangeWalk
import Derived.Sort.KeysCollected
namespace Go.Proofs.Ytdifnipjmnbojaa
open Go.RowKit Go.Maps Go.Sort

theorem key_str (p : Pe) (h : p.key.length ≤ 1000000000) : keyOf Try.prog 9 (.string (strB p.key)) = some (mkS (kb p)) := by
  have := WideMaps.keyOf_string_mk (P := Try.prog) Try.underlying9 (s := strB p.key) (by rw [strB_size]; unfold maxLen; omega)
  rw [this]
  unfold mkS kb
  rw [strB_list]

theorem key_int (z : Int) (h : I64 z) : keyOf Try.prog 3 (.int .i64 z) = some (mkI z) :=
  keyOf_int_mk Try.underlying3 (by unfold I64 at h; simp [Lit.wf, IntKind.min, IntKind.max, IntKind.signed, IntKind.bits]; omega)

section
variable {α : Type} [DecidableEq α] {ops : Array Oper} {rest : List Oper} {o : Oper} {a : Act} {Q : Exit → Act → World → Prop} {w : World}

/-- m[x] = i. -/
theorem wpList_putP (hgd : o.guard = none) (m x v : Operand) (kt mt : TypeId) (mk : α → Lit) (ho : o.op = Op.mapUpdate mt m x v) (K : Keyed Try.prog kt) (ht : Try.prog.underlying mt = some (.map kt 3)) (hi : ∀ x y, mk x = mk y → x = y) (hk : ∀ x, WideAt.IsKeyLit (mk x))
    (b n : Nat) (M : α → Option Nat) (hm : a.eval m = .map (some b)) (hown : MapP w kt mk b n M) (key : Value) (x0 : α) (hx : a.eval x = key) (hkey : keyOf Try.prog kt key = some (mk x0)) (i0 : Nat) (hv : a.eval v = .int .i64 (i0 : Int)) (h0 : i0 ≤ 1000000000) (hn : n ≤ 1000000000)
    (h : ∀ w', MapP w' kt mk b (n + 1) (fun x => if x = x0 then some i0 else M x) → Chg [b] w w' → wpList Try.prog ops Q rest (a.put o.dst undef) w') : wpList Try.prog ops Q (o :: rest) a w := by
  obtain ⟨D, hD, hM⟩ := hown
  refine wpList_mapUpdate_own w hgd m x v mt ho kt 3 K ht _ b n D hm hD (by unfold maxLen; omega) _ _ _ hx hv hkey _ [] (plainElem_int Try.underlying3 (wf_place h0)) ?_
  intro w' hD' hg
  exact h w' ⟨_, hD', mapP_put hi hk hD.isMap hM x0 i0⟩ (Chg.of_grown hg)

/-- delete(m, x). -/
theorem wpList_delP (hgd : o.guard = none) (m x : Operand) (kt mt : TypeId) (mk : α → Lit) (ho : o.op = Op.call { callee := Callee.builtin Builtin.delete, args := #[m, x], argTypes := #[mt, kt] }) (K : Keyed Try.prog kt) (ht : Try.prog.underlying mt = some (.map kt 3)) (hi : ∀ x y, mk x = mk y → x = y)
    (b n : Nat) (M : α → Option Nat) (hm : a.eval m = .map (some b)) (hown : MapP w kt mk b n M) (key : Value) (x0 : α) (hx : a.eval x = key) (hkey : keyOf Try.prog kt key = some (mk x0))
    (h : ∀ w', MapP w' kt mk b n (fun x => if x = x0 then none else M x) → Chg [b] w w' → wpList Try.prog ops Q rest (a.put o.dst (.tuple #[])) w') : wpList Try.prog ops Q (o :: rest) a w := by
  obtain ⟨D, hD, hM⟩ := hown
  refine wpList_delete_own w hgd m x mt kt ho 3 K ht _ b n D hm hD _ _ hx hkey ?_
  intro w' hD' ht'
  exact h w' ⟨_, hD', mapP_del hi hM x0⟩ (Chg.of_grown ht'.grown)

theorem zeroInt (w : World) : (zeroValue 3).run Try.prog w = .ok (.int .i64 0) w := by kernel_rfl

omit [DecidableEq α] in
/-- v, ok := m[x]. -/
theorem wpList_lookP (hgd : o.guard = none) (m x : Operand) (kt mt : TypeId) (mk : α → Lit) (ho : o.op = Op.lookup mt m x true) (K : Keyed Try.prog kt) (ht : Try.prog.underlying mt = some (.map kt 3))
    (b n : Nat) (M : α → Option Nat) (hm : a.eval m = .map (some b)) (hown : MapP w kt mk b n M) (key : Value) (x0 : α) (hx : a.eval x = key) (hkey : keyOf Try.prog kt key = some (mk x0)) (c : Nat) (s : Bool) (hc : (M x0).getD 0 = c) (hs : (M x0).isSome = s)
    (h : wpList Try.prog ops Q rest (a.put o.dst (.tuple #[.int .i64 (c : Int), .bool s])) w) : wpList Try.prog ops Q (o :: rest) a w := by
  obtain ⟨D, hD, hM⟩ := hown
  refine wpList_lookup_own_ok_int w hgd m x mt ho kt 3 .i64 K ht Try.underlying3 (zeroInt w) b n D hm hD key (mk x0) hx hkey ?_
  intro z hat _
  have e1 := (hM x0).1
  rw [hs] at e1
  have e2 : z = (c : Int) := by
    cases hM0 : M x0 with
    | none =>
      rw [hM0] at hc hs
      rw [atKey_of_not_has (by rw [e1, ← hs]; rfl)] at hat
      have : (0 : Int) = z := by simpa using hat
      rw [← this, ← hc]; rfl
    | some i =>
      rw [(hM x0).2 i hM0] at hat
      rw [hM0] at hc
      have : (i : Int) = z := by simpa using hat
      rw [← this, ← hc]; rfl
  rw [e1, e2]
  exact h

end

end Go.Proofs.Ytdifnipjmnbojaa
