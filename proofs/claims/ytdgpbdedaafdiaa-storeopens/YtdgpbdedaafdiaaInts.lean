/-
  Slices of integers: their cells as arguments; those of the call's own ('OwnZ'); literals.
-/
import Derived.Test.YtdgpbdedaafdiaaArgI
import Derived.Test.YtdgpbdedaafdiaaExt
namespace Go.Proofs.Ytdgpbdedaafdiaa
open Go.ChangeShapes Go.WideShapes Go.ChangeAt Go.RowKit

theorem IntsAt.drewN {w : World} {a : Option Addr} {cap : Nat} {zs : List Int} (h : IntsAt w a cap zs) (n : Nat) : IntsAt (w.drewN n) a cap zs := h.below (below_drewN w n)

theorem IntsAt.take {w : World} {a : Option Addr} {cap : Nat} {zs : List Int} (h : IntsAt w a cap zs) (n : Nat) : IntsAt w a cap (zs.take n) := by
  refine ⟨by have := h.le; rw [List.length_take]; omega, h.max, fun i => ?_, fun i hi => ?_⟩
  · by_cases hi : i < n
    · rw [List.getD_eq_getElem?_getD, List.getElem?_take_of_lt hi, ← List.getD_eq_getElem?_getD]; exact h.wf i
    · rw [List.getD_eq_getElem?_getD, List.getElem?_eq_none (by rw [List.length_take]; omega)]; simp
  · have hi' : i < n ∧ i < zs.length := by rw [List.length_take] at hi; omega
    obtain ⟨b, off, e, hc⟩ := h.cell i hi'.2
    refine ⟨b, off, e, ?_⟩
    rw [hc, List.getD_eq_getElem?_getD, List.getD_eq_getElem?_getD, List.getElem?_take_of_lt hi'.1]

def zcs (zs : List Int) : List Value := zs.map fun z => .int .i64 z
theorem zcs_len (zs : List Int) : (zcs zs).length = zs.length := by simp [zcs]
theorem zcs_at (zs : List Int) (i : Nat) (h : i < zs.length) : (zcs zs)[i]? = some (.int .i64 (zs.getD i 0)) := by
  rw [zcs, List.getElem?_map, List.getD_eq_getElem?_getD, List.getElem?_eq_getElem h]; rfl
theorem zcs_app (xs ys : List Int) : zcs (xs ++ ys) = zcs xs ++ zcs ys := by simp [zcs]
theorem zcs_set (zs : List Int) (k : Nat) (c : Int) : (zcs zs).set k (.int .i64 c) = zcs (zs.set k c) := by simp [zcs, List.map_set]
theorem zcs_one (zs : List Int) : ∀ u ∈ zcs zs, u.oneCell' = true := by
  intro u hu
  obtain ⟨c, _, rfl⟩ := List.mem_map.mp hu
  rfl

/-- A slice of integers in memory of the call's own. -/
def OwnZ (w : World) (base g cap : Nat) (zs : List Int) : Prop := w.ownsRow base 3 1 (.slice (some ⟨g, 0, none⟩) zs.length cap) zs.length (zcs zs)

theorem OwnZ.lt {w : World} {base g cap : Nat} {zs : List Int} (h : OwnZ w base g cap zs) : base ≤ g ∧ g < w.heap.size := World.ownsRow.lt h g rfl
theorem OwnZ.cell {w : World} {base g cap : Nat} {zs : List Int} (h : OwnZ w base g cap zs) (i : Nat) (hi : i < zs.length) : w.cell? ⟨g, i, none⟩ = some (.int .i64 (zs.getD i 0)) := by
  rw [World.ownsRow.cellAt h i (by omega)]; exact zcs_at zs i hi
theorem OwnZ.cap_le {w : World} {base g cap : Nat} {zs : List Int} (h : OwnZ w base g cap zs) : zs.length ≤ cap ∧ cap ≤ maxLen := by
  rcases h.2 with ⟨h', _⟩ | ⟨g', cap', cur, h', hb, hg, hnc, hcm, _⟩
  · cases h'
  · cases h'; exact ⟨hnc, hcm⟩
theorem OwnZ.frozen {w : World} {base g cap : Nat} {zs : List Int} (h : OwnZ w base g cap zs) (k : Nat) : w.frozen? ⟨g, k, none⟩ = false := World.ownsRow.frozenAt h k
theorem OwnZ.chg {gs : List Nat} {w w' : World} {base g cap : Nat} {zs : List Int} (h : OwnZ w base g cap zs) (hb : Chg gs w w') (hn : g ∉ gs) : OwnZ w' base g cap zs := hb.owns h (by rintro k ⟨⟩; exact hn)
theorem OwnZ.below {w w' : World} {base g cap : Nat} {zs : List Int} (h : OwnZ w base g cap zs) (hb : Below w.heap.size w w') : OwnZ w' base g cap zs := h.chg (gs := []) (Chg.of_below hb) (by simp)
theorem OwnZ.ints {w : World} {base g cap : Nat} {zs : List Int} (h : OwnZ w base g cap zs) (hw : ∀ i, -9223372036854775808 ≤ zs.getD i 0 ∧ zs.getD i 0 ≤ 9223372036854775807) : IntsAt w (some ⟨g, 0, none⟩) cap zs :=
  ⟨h.cap_le.1, h.cap_le.2, hw, fun i hi => ⟨g, 0, rfl, by rw [Nat.zero_add]; exact h.cell i hi⟩⟩

theorem ownZ_lit (w : World) (base B : Nat) (zs : List Int) (cs : Array Value) (n : Nat) (hn : zs.length = n) (hcs : cs.toList = zcs zs) (hb : base ≤ w.heap.size) (hB : w.heap.size = B) (hm : n ≤ maxLen) :
    OwnZ (w.alloc (.cells cs 3)) base B n zs := by
  subst hn hB
  have hsz : cs.size = zs.length * 1 := by rw [← Array.length_toList, hcs, zcs_len]; omega
  have := World.ownsRow_lit (base := base) (e := 3) (size := 1) w cs zs.length hb hm hsz
  rw [hcs] at this
  exact this

/-- A store into a row of the call's own. -/
theorem OwnZ.stored {w : World} {base g cap : Nat} {zs : List Int} (h : OwnZ w base g cap zs) (k : Nat) (c : Int) :
    OwnZ (w.setCell ⟨g, k, none⟩ (.int .i64 c)) base g cap (zs.set k c) ∧ Chg [g] w (w.setCell ⟨g, k, none⟩ (.int .i64 c)) := by
  have hs := World.ownsRow.stored h k (.int .i64 c)
  rw [zcs_set] at hs
  refine ⟨?_, Chg.of_grown hs.2⟩
  show World.ownsRow _ _ _ _ _ _ _
  rw [List.length_set]
  exact hs.1

set_option maxRecDepth 100000 in
theorem infoZ : ∃ i, Try.prog.info? 3 = some i ∧ i.zero = some (.int .i64 0) ∧ i.size = 1 ∧ i.bytes = 8 := ⟨_, rfl, by kernel_rfl, by kernel_rfl, by kernel_rfl⟩

/-- append(row, x): one integer more. -/
theorem wpList_appInt {ops : Array Oper} {rest : List Oper} {o : Oper} {a : Act} {Q : Exit → Act → World → Prop} {w : World} (hgd : o.guard = none) (s x : Operand)
    (ho : o.op = .call { callee := .builtin .append, args := #[s, x], argTypes := #[33, 33] })
    (base g cap n : Nat) (zs : List Int) (y : Int) (hn : zs.length = n) (hs : a.eval s = .slice (some ⟨g, 0, none⟩) n cap) (hown : OwnZ w base g cap zs)
    (b : Nat) (xc : Nat) (hx : a.eval x = .slice (some ⟨b, 0, none⟩) 1 xc) (hc : w.cell? ⟨b, 0, none⟩ = some (.int .i64 y)) (hb : n ≤ 1000000000) (hbase : base ≤ w.heap.size)
    (h : ∀ g' cap' w', OwnZ w' base g' cap' (zs ++ [y]) → Chg [g] w w' → (g' = g ∨ w.heap.size ≤ g') → wpList Try.prog ops Q rest (a.put o.dst (.slice (some ⟨g', 0, none⟩) (n + 1) cap')) w') :
    wpList Try.prog ops Q (o :: rest) a w := by
  subst hn
  obtain ⟨i, hi, hz, hsz, hby⟩ := infoZ
  refine wpList_append_lies w hgd s x 33 ho base 3 i (.int .i64 0) 1 8 Try.underlying33 hi hz hsz hby rfl (by omega) _ _ _ hs hown ⟨b, 0, none⟩ 1 xc [.int .i64 y] hx rfl
    (fun j u hj => ?_) (by simp [Value.oneCell']) (by omega) (by unfold maxLen; omega) (by omega) hbase w.heap.size rfl ?_
  · match j, hj with
    | 0, hj => simp at hj; subst hj; exact hc
    | j + 1, hj => simp at hj
  · intro g' cap' w' hown' hg hat hlt
    refine h g' cap' w' ?_ (Chg.of_grown hg) ?_
    · show World.ownsRow _ _ _ _ _ _ _
      rw [zcs_app, List.length_append]
      exact hown'
    · rcases hat with hat | hat
      · left; cases hat; rfl
      · right; omega

/-- Block B is a box of two cells that may be written. -/
structure CBox (w : World) (B : Nat) (x y : Value) : Prop where
  c0 : w.cell? ⟨B, 0, none⟩ = some x
  c1 : w.cell? ⟨B, 1, none⟩ = some y
  free : ∀ k, w.frozen? ⟨B, k, none⟩ = false

theorem CBox.chg {gs : List Nat} {w w' : World} {B : Nat} {x y : Value} (h : CBox w B x y) (hb : Chg gs w w') (hn : B ∉ gs) : CBox w' B x y :=
  ⟨hb.cell h.c0 hn, hb.cell h.c1 hn, fun k => by rw [World.frozen?_of_block (hb.block B (World.block_lt_of_cell? w _ h.c0) hn)]; exact h.free k⟩
theorem CBox.below {w w' : World} {B : Nat} {x y : Value} (h : CBox w B x y) (hb : Below w.heap.size w w') : CBox w' B x y := h.chg (gs := []) (Chg.of_below hb) (by simp)

theorem cbox_new (w : World) (x y : Value) (t : TypeId) : CBox (w.alloc (.cells #[x, y] t)) w.heap.size x y :=
  ⟨by rw [World.cell?_alloc_mark]; rfl, by rw [World.cell?_alloc_mark]; rfl, fun k => by rw [frozen?_alloc_cells]; simp [World.frozen?]⟩

/-- It is written anew. -/
theorem CBox.put {w : World} {B : Nat} {x y : Value} (h : CBox w B x y) (x' y' : Value) :
    CBox ((w.setCell ⟨B, 0, none⟩ x').setCell ⟨B, 1, none⟩ y') B x' y' ∧ Chg [B] w ((w.setCell ⟨B, 0, none⟩ x').setCell ⟨B, 1, none⟩ y') := by
  have h1 : (w.setCell ⟨B, 0, none⟩ x').cell? ⟨B, 1, none⟩ = some y := by rw [World.cell?_setCell_other _ _ _ _ (by simp)]; exact h.c1
  refine ⟨⟨?_, World.cell?_setCell_same _ _ _ h1, fun k => by rw [World.frozen?_setCell, World.frozen?_setCell]; exact h.free k⟩, (chg_set1 w B 0 _).trans (chg_set1 _ B 1 _)⟩
  rw [World.cell?_setCell_other _ _ _ _ (by simp)]
  exact World.cell?_setCell_same _ _ _ h.c0

end Go.Proofs.Ytdgpbdedaafdiaa
