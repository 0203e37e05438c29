/-
  Slices of rows of bytes of the call's own ('Rws'); calls that turn some blocks and hand back others ('Mv').
-/
import Derived.Test.YtggjpjpemgpeeaaDk
namespace Go.Proofs.Ytggjpjpemgpeeaa
open Go.RowKit

/-- A row of bytes as it lies in memory. -/
structure Rw where
  loc : Option Addr
  cap : Nat
  ps : List Nat

def Rw.val (x : Rw) : Value := .slice x.loc x.ps.length x.cap

/-- A slice of rows of the call's own (or nil); the rows are only read, and lie in other blocks. -/
structure Rws (w : World) (base : Nat) (ga : Option Addr) (cap : Nat) (xs : List Rw) : Prop where
  own : w.ownsRow base 23 1 (.slice ga xs.length cap) xs.length (xs.map Rw.val)
  seen : ∀ x ∈ xs, SeenAt w x.loc x.cap x.ps
  far : ∀ x ∈ xs, ∀ g ∈ blk x.loc, g ∉ blk ga ∧ g < w.heap.size

theorem rws_nil (w : World) (base : Nat) : Rws w base none 0 [] := ⟨World.ownsRow_nil _ _ _ _, by simp, by simp⟩

theorem seen_chg {w w' : World} {a : Option Addr} {cap : Nat} {ps : List Nat} {gs : List Nat} (h : SeenAt w a cap ps) (hb : Chg gs w w') (hn : ∀ g ∈ blk a, g ∉ gs) : SeenAt w' a cap ps :=
  h.chg hb fun b off e => by subst e; exact hn b (by simp [blk])

theorem Rws.cases {w : World} {base cap : Nat} {ga : Option Addr} {xs : List Rw} (h : Rws w base ga cap xs) : (ga = none ∧ xs = [] ∧ cap = 0) ∨ ∃ g, ga = some ⟨g, 0, none⟩ := by
  rcases h.own.2 with ⟨e, h0⟩ | ⟨g, c, cur, e, hb, rest⟩
  · left
    injection e with e1 e2 e3
    exact ⟨e1, List.eq_nil_of_length_eq_zero h0, e3⟩
  · right
    injection e with e1 e2 e3
    exact ⟨g, e1⟩

theorem Rws.lt {w : World} {base cap g : Nat} {ga : Option Addr} {xs : List Rw} (h : Rws w base ga cap xs) (hg : g ∈ blk ga) : base ≤ g ∧ g < w.heap.size := by
  rcases h.cases with ⟨rfl, _, _⟩ | ⟨g', rfl⟩
  · simp [blk] at hg
  · simp [blk] at hg
    subst hg
    exact World.ownsRow.lt h.own g rfl

theorem Rws.chg {w w' : World} {base cap : Nat} {ga : Option Addr} {xs : List Rw} {gs : List Nat} (h : Rws w base ga cap xs) (hb : Chg gs w w') (hg : ∀ g ∈ blk ga, g ∉ gs) (hx : ∀ x ∈ xs, ∀ g ∈ blk x.loc, g ∉ gs) : Rws w' base ga cap xs :=
  ⟨hb.owns h.own (fun g e => hg g (by rcases ga with _ | ad <;> simp [Value.ownBlock, blk] at e ⊢; exact e.symm)), fun x hx' => seen_chg (h.seen x hx') hb (hx x hx'), fun x hx' g hg' => ⟨(h.far x hx' g hg').1, Nat.lt_of_lt_of_le (h.far x hx' g hg').2 hb.size⟩⟩

theorem Rws.below {w w' : World} {base cap : Nat} {ga : Option Addr} {xs : List Rw} (h : Rws w base ga cap xs) (hb : Below w.heap.size w w') : Rws w' base ga cap xs := h.chg (gs := []) (Chg.of_below hb) (by simp) (by simp)

/-- What a row of the slice is. -/
theorem Rws.row {w : World} {base cap : Nat} {ga : Option Addr} {xs : List Rw} (h : Rws w base ga cap xs) (d : Rw) (i : Nat) (hi : i < xs.length) : ∃ g, ga = some ⟨g, 0, none⟩ ∧ w.cell? ⟨g, i, none⟩ = some (xs.getD i d).val := by
  rcases h.cases with ⟨_, rfl, _⟩ | ⟨g, rfl⟩
  · simp at hi
  · refine ⟨g, rfl, ?_⟩
    rw [World.ownsRow.cellAt h.own i (by omega), List.getElem?_map, List.getElem?_eq_getElem hi, List.getD_eq_getElem?_getD, List.getElem?_eq_getElem hi]
    rfl

theorem Rws.le {w : World} {base cap : Nat} {ga : Option Addr} {xs : List Rw} (h : Rws w base ga cap xs) : xs.length ≤ cap ∧ cap ≤ maxLen := by
  rcases h.own.2 with ⟨e, h0⟩ | ⟨g, c, cur, e, hb, hg, hnc, hcm, _⟩
  · injection e with e1 e2 e3
    unfold maxLen
    omega
  · injection e with e1 e2 e3
    subst e3
    exact ⟨hnc, hcm⟩

/-- append(rows, row), the row laid in a block of its own. -/
theorem wpList_appRw {ops : Array Oper} {rest : List Oper} {o : Oper} {a : Act} {Q : Exit → Act → World → Prop} {w : World} (hgd : o.guard = none) (s x : Operand)
    (ho : o.op = .call { callee := .builtin .append, args := #[s, x], argTypes := #[96, 96] })
    (base : Nat) (ga : Option Addr) (cap : Nat) (xs : List Rw) (n : Nat) (hn : xs.length = n) (hs : a.eval s = .slice ga n cap) (hown : Rws w base ga cap xs) (y : Rw)
    (B xc : Nat) (hx : a.eval x = .slice (some ⟨B, 0, none⟩) 1 xc) (hc : w.cell? ⟨B, 0, none⟩ = some y.val) (hb : n ≤ 1000000000) (hbase : base ≤ w.heap.size)
    (hsy : SeenAt w y.loc y.cap y.ps) (hfy : ∀ g ∈ blk y.loc, g ∉ blk ga ∧ g < w.heap.size)
    (h : ∀ g' cap' w', Rws w' base (some ⟨g', 0, none⟩) cap' (xs ++ [y]) → Chg (blk ga) w w' → (g' ∈ blk ga ∨ w.heap.size ≤ g') → wpList Try.prog ops Q rest (a.put o.dst (.slice (some ⟨g', 0, none⟩) (n + 1) cap')) w') :
    wpList Try.prog ops Q (o :: rest) a w := by
  obtain ⟨i, hi, hz, hsz, hby⟩ := infoS
  subst hn
  refine wpList_append_lies w hgd s x 96 ho base 23 i _ 1 24 Try.underlying96 hi hz hsz hby rfl (by omega) _ _ _ hs hown.own ⟨B, 0, none⟩ 1 xc [y.val] hx rfl
    (fun j u hj => ?_) (by simp [Rw.val, Value.oneCell']) (by omega) (by unfold maxLen; omega) (by omega) hbase w.heap.size rfl ?_
  · cases j with
    | zero =>
      simp at hj
      subst hj
      rw [Go.WideShapes.add_plain]
      exact hc
    | succ j => simp at hj
  · intro g' cap' w' hown' hg hat hlt
    have hat' : g' ∈ blk ga ∨ w.heap.size ≤ g' := by
      rcases hat with hat | hat
      · left
        rcases ga with _ | ad
        · simp [Value.ownBlock] at hat
        · simpa [Value.ownBlock, blk] using hat.symm
      · right; omega
    have hchg : Chg (blk ga) w w' := by
      rcases ga with _ | ad
      · exact Chg.of_new hg
      · exact Chg.of_grown hg
    refine h g' cap' w' ⟨?_, fun z hz' => ?_, fun z hz' g hgz => ?_⟩ hchg hat'
    · rw [List.map_append, List.length_append]
      exact hown'
    · rcases List.mem_append.mp hz' with hz' | hz'
      · exact seen_chg (hown.seen z hz') hchg fun g hgz => (hown.far z hz' g hgz).1
      · rw [List.mem_singleton.mp hz'] at *
        exact seen_chg hsy hchg fun g hgz => (hfy g hgz).1
    · have key : g ∉ blk ga ∧ g < w.heap.size := by
        rcases List.mem_append.mp hz' with hz' | hz'
        · exact hown.far z hz' g hgz
        · rw [List.mem_singleton.mp hz'] at hgz
          exact hfy g hgz
      refine ⟨?_, Nat.lt_of_lt_of_le key.2 hchg.size⟩
      simp only [blk, List.mem_singleton]
      rintro rfl
      rcases hat' with h1 | h1
      · exact key.1 h1
      · omega

/-- Of the old blocks only those of M have turned, and those of M' are among them or new. -/
structure Mv (w w' : World) (M M' : List Nat) : Prop where
  chg : Chg M w w'
  now : ∀ g ∈ M', g ∈ M ∨ w.heap.size ≤ g

theorem Mv.refl (w : World) (M : List Nat) : Mv w w M M := ⟨Chg.refl _ _, fun _ h => .inl h⟩

theorem Mv.of_below {w w' : World} (M : List Nat) (h : Below w.heap.size w w') : Mv w w' M M := ⟨Chg.of_below h, fun _ h => .inl h⟩

theorem Mv.trans {w w1 w2 : World} {M M1 M2 : List Nat} (h : Mv w w1 M M1) (k : Mv w1 w2 M1 M2) : Mv w w2 M M2 := by
  refine ⟨⟨k.chg.os.trans h.chg.os, k.chg.tape.trans h.chg.tape, k.chg.output.trans h.chg.output, Nat.le_trans h.chg.size k.chg.size, fun i hi hn => ?_⟩, fun g hg => ?_⟩
  · refine (k.chg.block i (Nat.lt_of_lt_of_le hi h.chg.size) fun hm => ?_).trans (h.chg.block i hi hn)
    rcases h.now i hm with h1 | h1
    · exact hn h1
    · omega
  · rcases k.now g hg with h1 | h1
    · exact h.now g h1
    · exact .inr (Nat.le_trans h.chg.size h1)

theorem Mv.below {w0 w w' : World} {M M' : List Nat} (h : Mv w w' M M') (hb : Below w0.heap.size w0 w) (hM : ∀ g ∈ M, w0.heap.size ≤ g) : Below w0.heap.size w0 w' ∧ ∀ g ∈ M', w0.heap.size ≤ g :=
  ⟨h.chg.below hb hb.size hM, fun g hg => by
    rcases h.now g hg with h1 | h1
    · exact hM g h1
    · exact Nat.le_trans hb.size h1⟩

end Go.Proofs.Ytggjpjpemgpeeaa
