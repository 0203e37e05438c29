/-
  What the reference's One, Vander and Product do; mat.Vander.
-/
import Derived.Test.YtnhledngeicekaaWalksM6
namespace Go.Proofs.Ytnhledngeicekaa
open Go.RowKit

theorem cell_new' (w : World) (v : Value) (t : TypeId) (n : Nat) (h : w.heap.size = n) : (w.alloc (.cells #[v] t)).cell? ⟨n, 0, none⟩ = some v := by
  subst h; exact cell_new w v t

/-- out = append(out, row), the row of the call's own and younger than out. -/
theorem OwnM.pushed {wr w5 w6 : World} {base G C G' C' x y : Nat} {g c : Nat → Nat} {m : List (List Nat)} {r : List Nat} (h : OwnM wr base G C g c m) (hb5 : Below wr.heap.size wr w5) (hr : OwnB w5 base x y r) (hx : wr.heap.size ≤ x) (o : Obj)
    (hC : Chg [G] (w5.alloc o) w6)
    (ho : w6.ownsRow base 28 1 (.slice (some ⟨G', 0, none⟩) (m.length + 1) C') (m.length + 1) (rvals g c m ++ [.slice (some ⟨x, 0, none⟩) r.length y])) :
    OwnM w6 base G' C' (snoc m.length x g) (snoc m.length y c) (m ++ [r]) ∧ Chg [G] wr w6 := by
  have hG := h.lt.2
  have hCC : Chg [G] wr w6 := ((Chg.of_below hb5).alloc o).trans hC
  refine ⟨h.push hCC x y r ?_ (fun i hi => ?_) ho, hCC⟩
  · exact (hr.chg (gs := []) ((Chg.refl _ _).alloc o) (by simp)).chg hC (by simp; omega)
  · have := (h.row i hi).lt.2
    omega

/-- The first i rows of the identity matrix with n columns. -/
def roneK (n i : Nat) : List (List Nat) := (List.range i).map fun j => (List.replicate n 0).set j 1
theorem roneK_len (n i : Nat) : (roneK n i).length = i := by simp [roneK]
theorem roneK_succ (n i : Nat) : roneK n (i + 1) = roneK n i ++ [(List.replicate n 0).set i 1] := by simp [roneK, List.range_succ]

/-- append(s, x...), the lengths by names of their own. -/
theorem wpList_appN {ops : Array Oper} {rest : List Oper} {o : Oper} {a : Act} {Q : Exit → Act → World → Prop} {w : World} (hgd : o.guard = none) (s x : Operand)
    (ho : o.op = .call { callee := .builtin .append, args := #[s, x], argTypes := #[28, 28] })
    (base g cap : Nat) (ps qs : List Nat) (n q : Nat) (hn : ps.length = n) (hqn : qs.length = q) (hs : a.eval s = .slice (some ⟨g, 0, none⟩) n cap) (hown : OwnB w base g cap ps)
    (xa : Option Addr) (xc : Nat) (hx : a.eval x = .slice xa q xc) (hq : SeenAt w xa xc qs) (hb : n + q ≤ 1000000000) (hbase : base ≤ w.heap.size)
    (h : ∀ g' cap' w', OwnB w' base g' cap' (ps ++ qs) → Chg [g] w w' → (g' = g ∨ w.heap.size ≤ g') → wpList Try.prog ops Q rest (a.put o.dst (.slice (some ⟨g', 0, none⟩) (n + q) cap')) w') :
    wpList Try.prog ops Q (o :: rest) a w := by
  subst hn hqn
  refine wpList_appB hgd s x ho base g cap ps qs hs hown xa xc hx hq hb hbase fun g' cap' w' h1 h2 h3 => ?_
  rw [List.length_append]
  exact h g' cap' w' h1 h2 h3

theorem seen_one (w : World) (c n : Nat) (hc : c < 256) (h : w.heap.size = n) : SeenAt (w.alloc (.cells #[.int .u8 (c : Int)] 5)) (some ⟨n, 0, none⟩) 1 [c] :=
  ⟨by simp, by unfold maxLen; omega, by intro x hx; simp at hx; omega, fun i hi => ⟨n, 0, rfl, by
    have : i = 0 := by simpa using hi
    subst this
    exact cell_new' w _ _ n h⟩⟩

/-- The powers of x from 0 on. -/
def pows (x n : Nat) : List Nat := (List.range n).map (Gf.ipow x)
theorem pows_len (x n : Nat) : (pows x n).length = n := by simp [pows]
theorem pows_succ (x n : Nat) : pows x (n + 1) = pows x n ++ [Gf.ipow x n] := by simp [pows, List.range_succ]

/-- The first i rows of powers. -/
def vanK (k i : Nat) : List (List Nat) := (List.range i).map fun j => pows j k
theorem vanK_len (k i : Nat) : (vanK k i).length = i := by simp [vanK]
theorem vanK_succ (k i : Nat) : vanK k (i + 1) = vanK k i ++ [pows i k] := by simp [vanK, List.range_succ]

theorem bytes_one (c : Nat) (h : c < 256) : Gf.Bytes [c] := by intro x hx; simp at hx; omega

end Go.Proofs.Ytnhledngeicekaa
