/-
  Memory in plain words: what a call may have turned ('Chg'), slices of bytes that are only read ('Seen'), slices of such ('Grid'), and those that the call itself has made ('OwnB', 'OwnM').
-/
import Derived.Test.YtdgpbdedaafdiaaGreatWalksA
import Derived.Laws.AppendOwnNone
import Derived.Deep.AppendLies
import Derived.Laws.CopyOwn
import Derived.OwnWalk
namespace Go.Proofs.YtdgpbdedaafdiaaGreat
open Go.RowKit

/-- Of the blocks that were there none but those of gs has turned. -/
structure Chg (gs : List Nat) (w w' : World) : Prop where
  os : w'.os = w.os
  tape : w'.tape = w.tape
  output : w'.output = w.output
  size : w.heap.size ≤ w'.heap.size
  block : ∀ k, k < w.heap.size → k ∉ gs → w'.heap[k]? = w.heap[k]?

theorem Chg.refl (gs : List Nat) (w : World) : Chg gs w w := ⟨rfl, rfl, rfl, Nat.le_refl _, fun _ _ _ => rfl⟩

theorem Chg.trans {gs : List Nat} {a b c : World} (h : Chg gs a b) (k : Chg gs b c) : Chg gs a c :=
  ⟨k.os.trans h.os, k.tape.trans h.tape, k.output.trans h.output, Nat.le_trans h.size k.size, fun i hi hn => (k.block i (Nat.lt_of_lt_of_le hi h.size) hn).trans (h.block i hi hn)⟩

theorem Chg.mono {gs hs : List Nat} {a b : World} (h : Chg gs a b) (hl : ∀ g ∈ gs, g ∈ hs) : Chg hs a b :=
  ⟨h.os, h.tape, h.output, h.size, fun i hi hn => h.block i hi fun e => hn (hl i e)⟩

theorem Chg.of_below {gs : List Nat} {a b : World} (h : Below a.heap.size a b) : Chg gs a b :=
  ⟨h.os, h.tape, h.output, h.size, fun i hi _ => h.block i hi⟩

theorem Chg.drew {gs : List Nat} {a b : World} (h : Chg gs a b) : Chg gs a b.drew := ⟨h.os, h.tape, h.output, h.size, h.block⟩

theorem Chg.drewN {gs : List Nat} {a b : World} (h : Chg gs a b) (n : Nat) : Chg gs a (b.drewN n) := ⟨h.os, h.tape, h.output, h.size, h.block⟩

theorem Chg.alloc {gs : List Nat} {a b : World} (h : Chg gs a b) (o : Obj) : Chg gs a (b.alloc o) := h.trans (Chg.of_below (below_one _ _))

theorem Chg.of_grown {g : Nat} {a b : World} (h : a.grownBy b (some g)) : Chg [g] a b :=
  ⟨h.os, h.tape, h.output, h.size, fun i hi hn => h.block i hi (by simpa using hn)⟩

theorem Chg.of_new {gs : List Nat} {a b : World} (h : a.grownBy b none) : Chg gs a b :=
  ⟨h.os, h.tape, h.output, h.size, fun i hi _ => h.block i hi (by simp)⟩

theorem Chg.below {gs : List Nat} {a b : World} (h : Chg gs a b) {B : Nat} {w0 : World} (hb : Below B w0 a) (hB : B ≤ a.heap.size) (hg : ∀ g ∈ gs, B ≤ g) : Below B w0 b :=
  hb.trans ⟨h.os, h.tape, h.output, h.size, fun i hi => h.block i (Nat.lt_of_lt_of_le hi hB) fun e => by have := hg i e; omega⟩

theorem Chg.cell {gs : List Nat} {a b : World} (h : Chg gs a b) {p : Addr} {v : Value} (hp : a.cell? p = some v) (hn : p.block ∉ gs) : b.cell? p = some v :=
  (World.cell?_of_block (h.block p.block (World.block_lt_of_cell? a p hp) hn)).trans hp

theorem chg_set1 (w : World) (R k : Nat) (v : Value) : Chg [R] w (w.setCell ⟨R, k, none⟩ v) :=
  let h := (Below.refl 0 w).setCell (p := ⟨R, k, none⟩) (Nat.zero_le _) v
  ⟨h.os, h.tape, h.output, h.size, fun i _ hn => Below.heap_setCell w _ _ i (by simpa using hn)⟩

theorem IsTab.chg {gs : List Nat} {w w' : World} {b : Nat} (h : IsTab w b) (hb : Chg gs w w') (hn : b ∉ gs) : IsTab w' b where
  pow i hi := hb.cell (h.pow i hi) hn
  log a h0 h1 := hb.cell (h.log a h0 h1) hn

theorem IsTab.alike {w w' : World} {b : Nat} (h : IsTab w b) (e : w'.heap = w.heap) : IsTab w' b where
  pow i hi := by rw [← h.pow i hi]; simp [World.cell?, e]
  log a h0 h1 := by rw [← h.log a h0 h1]; simp [World.cell?, e]

/-- A cell that is there may be written behind a new block too. -/
theorem after_alloc {w : World} {a : Addr} {v : Value} (h : w.cell? a = some v) (hf : w.frozen? a = false) : (∀ o, (w.alloc o).cell? a = some v) ∧ ∀ o, (w.alloc o).frozen? a = false :=
  ⟨fun o => cell_later (below_one w o) h, fun o => by rw [(below_one w o).frozen (World.block_lt_of_cell? w a h)]; exact hf⟩

theorem Chg.owns {gs : List Nat} {a b : World} (h : Chg gs a b) {base : Nat} {e : TypeId} {size n : Nat} {v : Value} {xs : List Value} (ho : a.ownsRow base e size v n xs) (hn : ∀ g, v.ownBlock = some g → g ∉ gs) : b.ownsRow base e size v n xs := by
  refine ⟨ho.1, ?_⟩
  rcases ho.2 with h1 | ⟨g, cap, cur, rfl, hb, hg, rest⟩
  · exact .inl h1
  · refine .inr ⟨g, cap, cur, rfl, hb, ?_, rest⟩
    rw [h.block g (Array.getElem?_eq_some_iff.1 hg).1 (hn g rfl)]
    exact hg

theorem owns_base {w : World} {base base' : Nat} {e : TypeId} {size n : Nat} {v : Value} {xs : List Value} (h : w.ownsRow base e size v n xs) (hb : base' ≤ base) : w.ownsRow base' e size v n xs := by
  refine ⟨h.1, ?_⟩
  rcases h.2 with h1 | ⟨g, cap, cur, rfl, hg, rest⟩
  · exact .inl h1
  · exact .inr ⟨g, cap, cur, rfl, Nat.le_trans hb hg, rest⟩

/-- Two rows of elements of unlike types lie in unlike blocks. -/
theorem owns_ne {w : World} {b1 b2 s1 s2 n1 n2 c1 c2 g1 g2 : Nat} {e1 e2 : TypeId} {x1 x2 : List Value} (h1 : w.ownsRow b1 e1 s1 (.slice (some ⟨g1, 0, none⟩) n1 c1) n1 x1)
    (h2 : w.ownsRow b2 e2 s2 (.slice (some ⟨g2, 0, none⟩) n2 c2) n2 x2) (hne : e1 ≠ e2) : g1 ≠ g2 := by
  rintro rfl
  rcases h1.2 with ⟨h, _⟩ | ⟨g, c, u, h, _, hg, _⟩
  · cases h
  · cases h
    rcases h2.2 with ⟨h, _⟩ | ⟨g', c', u', h, _, hg', _⟩
    · cases h
    · cases h
      rw [hg] at hg'
      cases hg'
      exact hne rfl

/-- The bytes as the cells hold them. -/
def vals (ps : List Nat) : List Value := ps.map fun (c : Nat) => .int .u8 (c : Int)

theorem vals_len (ps : List Nat) : (vals ps).length = ps.length := by simp [vals]
theorem vals_get (ps : List Nat) (i : Nat) : (vals ps)[i]? = ps[i]?.map fun (c : Nat) => .int .u8 (c : Int) := by simp [vals]
theorem vals_at (ps : List Nat) (i : Nat) (h : i < ps.length) : (vals ps)[i]? = some (.int .u8 ((ps.getD i 0 : Nat) : Int)) := by
  rw [vals_get, List.getD_eq_getElem?_getD, List.getElem?_eq_getElem h]; rfl
theorem vals_app (ps qs : List Nat) : vals (ps ++ qs) = vals ps ++ vals qs := by simp [vals]
theorem vals_set (ps : List Nat) (k c : Nat) : (vals ps).set k (.int .u8 (c : Int)) = vals (ps.set k c) := by simp [vals, List.map_set]
theorem vals_one (ps : List Nat) : ∀ u ∈ vals ps, u.oneCell' = true := by
  intro u hu
  obtain ⟨c, _, rfl⟩ := List.mem_map.mp hu
  rfl

theorem bytes_get (ps : List Nat) (k : Nat) (h : Gf.Bytes ps) : ps.getD k 0 < 256 := by
  rw [List.getD_eq_getElem?_getD]
  by_cases hk : k < ps.length
  · rw [List.getElem?_eq_getElem hk]; exact h _ (List.getElem_mem _)
  · rw [List.getElem?_eq_none (by omega)]; simp
theorem bytes_set (ps : List Nat) (k c : Nat) (h : Gf.Bytes ps) (hc : c < 256) : Gf.Bytes (ps.set k c) := by
  intro x hx
  rcases List.mem_or_eq_of_mem_set hx with hx | rfl
  · exact h x hx
  · exact hc
theorem bytes_take (ps : List Nat) (k : Nat) (h : Gf.Bytes ps) : Gf.Bytes (ps.take k) := fun c hc => h c (List.mem_of_mem_take hc)
theorem bytes_nil : Gf.Bytes [] := by intro c hc; simp at hc
theorem bytes_app {ps qs : List Nat} (h : Gf.Bytes ps) (h' : Gf.Bytes qs) : Gf.Bytes (ps ++ qs) := by
  intro x hx
  rcases List.mem_append.mp hx with hx | hx
  · exact h x hx
  · exact h' x hx

/-- The cells behind the address a hold the bytes ps. -/
structure SeenAt (w : World) (a : Option Addr) (cap : Nat) (ps : List Nat) : Prop where
  le : ps.length ≤ cap
  max : cap ≤ maxLen
  byte : Gf.Bytes ps
  cell : ∀ i, i < ps.length → ∃ b off, a = some ⟨b, off, none⟩ ∧ w.cell? ⟨b, off + i, none⟩ = some (.int .u8 ((ps.getD i 0 : Nat) : Int))

/-- A slice of bytes that reads as ps. -/
def Seen (w : World) (v : Value) (ps : List Nat) : Prop := ∃ a cap, v = .slice a ps.length cap ∧ SeenAt w a cap ps

theorem SeenAt.below {w w' : World} {a : Option Addr} {cap : Nat} {ps : List Nat} (h : SeenAt w a cap ps) (hb : Below w.heap.size w w') : SeenAt w' a cap ps :=
  ⟨h.le, h.max, h.byte, fun i hi => by obtain ⟨b, off, e, hc⟩ := h.cell i hi; exact ⟨b, off, e, cell_later hb hc⟩⟩

theorem Seen.below {w w' : World} {v : Value} {ps : List Nat} (h : Seen w v ps) (hb : Below w.heap.size w w') : Seen w' v ps := by
  obtain ⟨a, cap, e, hs⟩ := h
  exact ⟨a, cap, e, hs.below hb⟩

theorem SeenAt.chg {gs : List Nat} {w w' : World} {a : Option Addr} {cap : Nat} {ps : List Nat} (h : SeenAt w a cap ps) (hb : Chg gs w w') (hn : ∀ b off, a = some ⟨b, off, none⟩ → b ∉ gs) : SeenAt w' a cap ps :=
  ⟨h.le, h.max, h.byte, fun i hi => by obtain ⟨b, off, e, hc⟩ := h.cell i hi; exact ⟨b, off, e, hb.cell hc (hn b off e)⟩⟩

theorem SeenAt.drewN {w : World} {a : Option Addr} {cap : Nat} {ps : List Nat} (h : SeenAt w a cap ps) (n : Nat) : SeenAt (w.drewN n) a cap ps := h.below (below_drewN w n)
theorem Seen.drewN {w : World} {v : Value} {ps : List Nat} (h : Seen w v ps) (n : Nat) : Seen (w.drewN n) v ps := h.below (below_drewN w n)

theorem SeenAt.alike {w w' : World} {a : Option Addr} {cap : Nat} {ps : List Nat} (h : SeenAt w a cap ps) (e : w'.heap = w.heap) : SeenAt w' a cap ps :=
  ⟨h.le, h.max, h.byte, fun i hi => by obtain ⟨b, off, e1, hc⟩ := h.cell i hi; exact ⟨b, off, e1, by rw [← hc]; simp [World.cell?, e]⟩⟩

theorem SeenAt.nil {w : World} {a : Option Addr} {cap : Nat} (h : cap ≤ maxLen) : SeenAt w a cap [] := ⟨Nat.zero_le _, h, bytes_nil, fun i hi => by simp at hi⟩

/-- The first n bytes. -/
theorem SeenAt.take {w : World} {a : Option Addr} {cap : Nat} {ps : List Nat} (h : SeenAt w a cap ps) (n : Nat) : SeenAt w a cap (ps.take n) :=
  ⟨by have := h.le; simp; omega, h.max, bytes_take ps n h.byte, fun i hi => by
    have hi' : i < n ∧ i < ps.length := by rw [List.length_take] at hi; omega
    obtain ⟨b, off, e, hc⟩ := h.cell i hi'.2
    refine ⟨b, off, e, ?_⟩
    rw [hc, List.getD_eq_getElem?_getD, List.getD_eq_getElem?_getD, List.getElem?_take_of_lt hi'.1]⟩

/-- The cells behind the address a hold slices that read as the rows of m. -/
structure GridAt (w : World) (a : Option Addr) (cap : Nat) (m : List (List Nat)) : Prop where
  le : m.length ≤ cap
  max : cap ≤ maxLen
  row : ∀ i, i < m.length → ∃ b off r, a = some ⟨b, off, none⟩ ∧ w.cell? ⟨b, off + i, none⟩ = some r ∧ Seen w r (m.getD i [])

/-- A slice of slices of bytes that reads as m. -/
def Grid (w : World) (v : Value) (m : List (List Nat)) : Prop := ∃ a cap, v = .slice a m.length cap ∧ GridAt w a cap m

theorem GridAt.below {w w' : World} {a : Option Addr} {cap : Nat} {m : List (List Nat)} (h : GridAt w a cap m) (hb : Below w.heap.size w w') : GridAt w' a cap m :=
  ⟨h.le, h.max, fun i hi => by obtain ⟨b, off, r, e, hc, hs⟩ := h.row i hi; exact ⟨b, off, r, e, cell_later hb hc, hs.below hb⟩⟩

theorem Grid.below {w w' : World} {v : Value} {m : List (List Nat)} (h : Grid w v m) (hb : Below w.heap.size w w') : Grid w' v m := by
  obtain ⟨a, cap, e, hs⟩ := h
  exact ⟨a, cap, e, hs.below hb⟩

theorem GridAt.nil {w : World} {a : Option Addr} {cap : Nat} (h : cap ≤ maxLen) : GridAt w a cap [] := ⟨Nat.zero_le _, h, fun i hi => by simp at hi⟩

theorem Grid.none (w : World) : Grid w (.slice Option.none 0 0) [] := ⟨Option.none, 0, rfl, GridAt.nil (Nat.zero_le _)⟩

theorem getD_mem {α : Type} (m : List α) (i : Nat) (d : α) (h : i < m.length) : m.getD i d ∈ m := by
  rw [List.getD_eq_getElem?_getD, List.getElem?_eq_getElem h]; exact List.getElem_mem _

theorem GridAt.take {w : World} {a : Option Addr} {cap : Nat} {m : List (List Nat)} (h : GridAt w a cap m) (n : Nat) : GridAt w a cap (m.take n) :=
  ⟨by have := h.le; simp; omega, h.max, fun i hi => by
    have hi' : i < n ∧ i < m.length := by rw [List.length_take] at hi; omega
    obtain ⟨b, off, r, e, hc, hs⟩ := h.row i hi'.2
    refine ⟨b, off, r, e, hc, ?_⟩
    rw [List.getD_eq_getElem?_getD, List.getElem?_take_of_lt hi'.1, ← List.getD_eq_getElem?_getD]
    exact hs⟩

/-- A slice of bytes in memory of the call's own. -/
structure OwnB (w : World) (base g cap : Nat) (ps : List Nat) : Prop where
  own : w.ownsRow base 5 1 (.slice (some ⟨g, 0, none⟩) ps.length cap) ps.length (vals ps)
  byte : Gf.Bytes ps

theorem OwnB.lt {w : World} {base g cap : Nat} {ps : List Nat} (h : OwnB w base g cap ps) : base ≤ g ∧ g < w.heap.size := World.ownsRow.lt h.own g rfl

theorem OwnB.cap_le {w : World} {base g cap : Nat} {ps : List Nat} (h : OwnB w base g cap ps) : ps.length ≤ cap ∧ cap ≤ maxLen := by
  rcases h.own.2 with ⟨h', _⟩ | ⟨g', cap', cur, h', hb, hg, hnc, hcm, _⟩
  · cases h'
  · cases h'; exact ⟨hnc, hcm⟩

theorem OwnB.cell {w : World} {base g cap : Nat} {ps : List Nat} (h : OwnB w base g cap ps) (k : Nat) (hk : k < ps.length) :
    w.cell? ⟨g, k, none⟩ = some (.int .u8 ((ps.getD k 0 : Nat) : Int)) := by
  rw [World.ownsRow.cellAt h.own k (by omega)]; exact vals_at ps k hk

theorem OwnB.frozen {w : World} {base g cap : Nat} {ps : List Nat} (h : OwnB w base g cap ps) (k : Nat) : w.frozen? ⟨g, k, none⟩ = false := World.ownsRow.frozenAt h.own k

theorem OwnB.seenAt {w : World} {base g cap : Nat} {ps : List Nat} (h : OwnB w base g cap ps) : SeenAt w (some ⟨g, 0, none⟩) cap ps :=
  ⟨h.cap_le.1, h.cap_le.2, h.byte, fun i hi => ⟨g, 0, rfl, by rw [Nat.zero_add]; exact h.cell i hi⟩⟩

theorem OwnB.seen {w : World} {base g cap : Nat} {ps : List Nat} (h : OwnB w base g cap ps) : Seen w (.slice (some ⟨g, 0, none⟩) ps.length cap) ps := ⟨_, _, rfl, h.seenAt⟩

theorem OwnB.chg {gs : List Nat} {w w' : World} {base g cap : Nat} {ps : List Nat} (h : OwnB w base g cap ps) (hb : Chg gs w w') (hn : g ∉ gs) : OwnB w' base g cap ps :=
  ⟨hb.owns h.own (by rintro k ⟨⟩; exact hn), h.byte⟩

theorem OwnB.base {w : World} {base base' g cap : Nat} {ps : List Nat} (h : OwnB w base g cap ps) (hb : base' ≤ base) : OwnB w base' g cap ps := ⟨owns_base h.own hb, h.byte⟩

theorem OwnB.drew {w : World} {base g cap : Nat} {ps : List Nat} (h : OwnB w base g cap ps) : OwnB w.drew base g cap ps := h.chg (gs := []) (Chg.refl _ _).drew (by simp)
theorem OwnB.drewN {w : World} {base g cap : Nat} {ps : List Nat} (h : OwnB w base g cap ps) (n : Nat) : OwnB (w.drewN n) base g cap ps := h.chg (gs := []) ((Chg.refl _ _).drewN n) (by simp)

theorem OwnB.alike {w w' : World} {base g cap : Nat} {ps : List Nat} (h : OwnB w base g cap ps) (e : w'.heap = w.heap) : OwnB w' base g cap ps := by
  refine ⟨⟨h.own.1, ?_⟩, h.byte⟩
  rcases h.own.2 with h1 | ⟨g', cap', cur, hv, hb, hg, rest⟩
  · exact .inl h1
  · exact .inr ⟨g', cap', cur, hv, hb, by rw [e]; exact hg, rest⟩

/-- A store into a row of the call's own. -/
theorem OwnB.stored {w : World} {base g cap : Nat} {ps : List Nat} (h : OwnB w base g cap ps) (k c : Nat) (hc : c < 256) :
    OwnB (w.setCell ⟨g, k, none⟩ (.int .u8 (c : Int))) base g cap (ps.set k c) ∧ Chg [g] w (w.setCell ⟨g, k, none⟩ (.int .u8 (c : Int))) := by
  have hs := World.ownsRow.stored h.own k (.int .u8 (c : Int))
  rw [vals_set] at hs
  refine ⟨⟨?_, bytes_set ps k c h.byte hc⟩, Chg.of_grown hs.2⟩
  rw [List.length_set]
  exact hs.1

/-- The same behind some draws. -/
theorem OwnB.storedN {w : World} {base g cap : Nat} {ps : List Nat} (h : OwnB w base g cap ps) (k c : Nat) (hc : c < 256) (n : Nat) :
    OwnB ((w.drewN n).setCell ⟨g, k, none⟩ (.int .u8 (c : Int))) base g cap (ps.set k c) ∧ Chg [g] w ((w.drewN n).setCell ⟨g, k, none⟩ (.int .u8 (c : Int))) := by
  obtain ⟨h1, h2⟩ := (h.drewN n).stored k c hc
  exact ⟨h1, ((Chg.refl _ _).drewN n).trans h2⟩

theorem ownB_lit (w : World) (base : Nat) (ps : List Nat) (cs : Array Value) (hcs : cs.toList = vals ps) (hB : Gf.Bytes ps) (hb : base ≤ w.heap.size) (hm : ps.length ≤ maxLen) :
    OwnB (w.alloc (.cells cs 5)) base w.heap.size ps.length ps := by
  have hsz : cs.size = ps.length * 1 := by rw [← Array.length_toList, hcs, vals_len]; omega
  have := World.ownsRow_lit (base := base) (e := 5) (size := 1) w cs ps.length hb hm hsz
  rw [hcs] at this
  exact ⟨this, hB⟩

set_option maxRecDepth 100000 in
theorem info8 : ∃ i, Tryz.prog.info? 5 = some i ∧ i.zero = some (.int .u8 0) ∧ i.size = 1 ∧ i.bytes = 1 := ⟨_, rfl, by kernel_rfl, by kernel_rfl, by kernel_rfl⟩

set_option maxRecDepth 100000 in
theorem infoS : ∃ i, Tryz.prog.info? 39 = some i ∧ i.zero = some (.slice none 0 0) ∧ i.size = 1 ∧ i.bytes = 24 := ⟨_, rfl, by kernel_rfl, by kernel_rfl, by kernel_rfl⟩

theorem vals_rep (n : Nat) : vals (List.replicate n 0) = List.replicate n (.int .u8 0) := by simp [vals]

theorem bytes_rep (n : Nat) : Gf.Bytes (List.replicate n 0) := by
  intro c hc
  obtain rfl := List.eq_of_mem_replicate hc
  omega

/-- A row that make has laid. -/
theorem ownB_made (w : World) (base n : Nat) (hb : base ≤ w.heap.size) (hm : n ≤ maxLen) :
    OwnB (w.alloc (.cells (madeCells #[.int .u8 0] n) 5)) base w.heap.size n (List.replicate n 0) := by
  have := ownB_lit w base (List.replicate n 0) (madeCells #[.int .u8 0] n) (by rw [vals_rep, toList_madeCells_one]) (bytes_rep n) hb (by simpa using hm)
  rw [List.length_replicate] at this
  exact this

/-- append(s, x...): bytes, s of the call's own, x whatever. -/
theorem wpList_appB {ops : Array Oper} {rest : List Oper} {o : Oper} {a : Act} {Q : Exit → Act → World → Prop} {w : World} (hgd : o.guard = none) (s x : Operand)
    (ho : o.op = .call { callee := .builtin .append, args := #[s, x], argTypes := #[39, 39] })
    (base g cap : Nat) (ps qs : List Nat) (hs : a.eval s = .slice (some ⟨g, 0, none⟩) ps.length cap) (hown : OwnB w base g cap ps)
    (xa : Option Addr) (xc : Nat) (hx : a.eval x = .slice xa qs.length xc) (hq : SeenAt w xa xc qs) (hb : ps.length + qs.length ≤ 1000000000) (hbase : base ≤ w.heap.size)
    (h : ∀ g' cap' w', OwnB w' base g' cap' (ps ++ qs) → Chg [g] w w' → (g' = g ∨ w.heap.size ≤ g') → wpList Tryz.prog ops Q rest (a.put o.dst (.slice (some ⟨g', 0, none⟩) (ps ++ qs).length cap')) w') :
    wpList Tryz.prog ops Q (o :: rest) a w := by
  obtain ⟨i, hi, hz, hsz, hby⟩ := info8
  by_cases h0 : qs = []
  · subst h0
    have hfin := h g cap w (by rw [List.append_nil]; exact hown) (Chg.refl _ _) (.inl rfl)
    rw [List.append_nil] at hfin
    have hrun : (Builtin.append_ #[39, 39] o.type #[.slice (some ⟨g, 0, none⟩) ps.length cap, .slice xa 0 xc]).run Tryz.prog w = .ok (.slice (some ⟨g, 0, none⟩) ps.length cap) w := by
      have hc := hown.cap_le.1
      rcases xa with _ | ad
      · simp [Builtin.append_, run_underlying Tryz.underlying39, sizeOf, typeInfo, hi, Builtin.lenOf, Builtin.firstCells, hc, storeCells]
      · simp [Builtin.append_, run_underlying Tryz.underlying39, sizeOf, typeInfo, hi, Builtin.lenOf, Builtin.firstCells, hc, storeCells, loadCells, loadCellsFrom]
    have hx2 : a.eval x = .slice xa 0 xc := hx
    refine wpList_plain hgd fun K hK => ?_
    unfold Oper.wp
    simp [execOp, ho, resolve, invoke, builtin, hs, hx2, hrun, Result.andThen]
    exact hK _ _ hfin
  · have hpos : 0 < qs.length := by cases qs with | nil => exact absurd rfl h0 | cons c q => simp
    obtain ⟨b, off, rfl, _⟩ := hq.cell 0 hpos
    refine wpList_append_lies w hgd s x 39 ho base 5 i (.int .u8 0) 1 1 Tryz.underlying39 hi hz hsz hby rfl (by omega) _ _ _ hs hown.own ⟨b, off, none⟩ qs.length xc (vals qs) hx (by rw [vals_len]; omega)
      (fun j u hj => ?_) (vals_one qs) hpos (by unfold maxLen; omega) (by omega) hbase w.heap.size rfl ?_
    · have hl : j < qs.length := by
        rcases Nat.lt_or_ge j qs.length with hlt | hge
        · exact hlt
        · rw [List.getElem?_eq_none (by rw [vals_len]; exact hge)] at hj; cases hj
      rw [vals_at qs j hl] at hj
      rw [← hj, Go.WideShapes.add_plain]
      obtain ⟨b', off', e, hc⟩ := hq.cell j hl
      cases e
      exact hc
    · intro g' cap' w' hown' hg hat hlt
      rw [← List.length_append]
      refine h g' cap' w' ⟨?_, bytes_app hown.byte hq.byte⟩ (Chg.of_grown hg) ?_
      · rw [vals_app, List.length_append]
        exact hown'
      · rcases hat with hat | hat
        · left; cases hat; rfl
        · right; omega

/-- The slices that the rows of m are, row i in block g i. -/
def rvals (g c : Nat → Nat) (m : List (List Nat)) : List Value := (List.range m.length).map fun i => .slice (some ⟨g i, 0, none⟩) (m.getD i []).length (c i)

theorem rvals_len (g c : Nat → Nat) (m : List (List Nat)) : (rvals g c m).length = m.length := by simp [rvals]
theorem rvals_at (g c : Nat → Nat) (m : List (List Nat)) (i : Nat) (h : i < m.length) : (rvals g c m)[i]? = some (.slice (some ⟨g i, 0, none⟩) (m.getD i []).length (c i)) := by
  simp [rvals, h]
theorem rvals_one (g c : Nat → Nat) (m : List (List Nat)) : ∀ u ∈ rvals g c m, u.oneCell' = true := by
  intro u hu
  obtain ⟨i, _, rfl⟩ := List.mem_map.mp hu
  rfl

/-- A slice of slices of bytes, all of it in memory of the call's own, each row in a block of its own. -/
structure OwnM (w : World) (base G C : Nat) (g c : Nat → Nat) (m : List (List Nat)) : Prop where
  outer : w.ownsRow base 39 1 (.slice (some ⟨G, 0, none⟩) m.length C) m.length (rvals g c m)
  row : ∀ i, i < m.length → OwnB w base (g i) (c i) (m.getD i [])
  inj : ∀ i j, i < m.length → j < m.length → g i = g j → i = j

theorem OwnM.ne {w : World} {base G C : Nat} {g c : Nat → Nat} {m : List (List Nat)} (h : OwnM w base G C g c m) (i : Nat) (hi : i < m.length) : g i ≠ G :=
  owns_ne (h.row i hi).own h.outer (by decide)

theorem OwnM.lt {w : World} {base G C : Nat} {g c : Nat → Nat} {m : List (List Nat)} (h : OwnM w base G C g c m) : base ≤ G ∧ G < w.heap.size := World.ownsRow.lt h.outer G rfl

theorem OwnM.cap_le {w : World} {base G C : Nat} {g c : Nat → Nat} {m : List (List Nat)} (h : OwnM w base G C g c m) : m.length ≤ C ∧ C ≤ maxLen := by
  rcases h.outer.2 with ⟨h', _⟩ | ⟨g', cap', cur, h', hb, hg, hnc, hcm, _⟩
  · cases h'
  · cases h'; exact ⟨hnc, hcm⟩

theorem OwnM.cell {w : World} {base G C : Nat} {g c : Nat → Nat} {m : List (List Nat)} (h : OwnM w base G C g c m) (i : Nat) (hi : i < m.length) :
    w.cell? ⟨G, i, none⟩ = some (.slice (some ⟨g i, 0, none⟩) (m.getD i []).length (c i)) := by
  rw [World.ownsRow.cellAt h.outer i (by omega)]; exact rvals_at g c m i hi

theorem OwnM.frozen {w : World} {base G C : Nat} {g c : Nat → Nat} {m : List (List Nat)} (h : OwnM w base G C g c m) (i : Nat) : w.frozen? ⟨G, i, none⟩ = false := World.ownsRow.frozenAt h.outer i

theorem OwnM.gridAt {w : World} {base G C : Nat} {g c : Nat → Nat} {m : List (List Nat)} (h : OwnM w base G C g c m) : GridAt w (some ⟨G, 0, none⟩) C m :=
  ⟨h.cap_le.1, h.cap_le.2, fun i hi => ⟨G, 0, _, rfl, by rw [Nat.zero_add]; exact h.cell i hi, (h.row i hi).seen⟩⟩

theorem OwnM.grid {w : World} {base G C : Nat} {g c : Nat → Nat} {m : List (List Nat)} (h : OwnM w base G C g c m) : Grid w (.slice (some ⟨G, 0, none⟩) m.length C) m := ⟨_, _, rfl, h.gridAt⟩

theorem OwnM.chg {gs : List Nat} {w w' : World} {base G C : Nat} {g c : Nat → Nat} {m : List (List Nat)} (h : OwnM w base G C g c m) (hb : Chg gs w w') (hG : G ∉ gs) (hg : ∀ i, i < m.length → g i ∉ gs) : OwnM w' base G C g c m :=
  ⟨hb.owns h.outer (by rintro k ⟨⟩; exact hG), fun i hi => (h.row i hi).chg hb (hg i hi), h.inj⟩

theorem OwnM.below {w w' : World} {base G C : Nat} {g c : Nat → Nat} {m : List (List Nat)} (h : OwnM w base G C g c m) (hb : Below w.heap.size w w') : OwnM w' base G C g c m :=
  h.chg (gs := []) (Chg.of_below hb) (by simp) (by simp)

theorem OwnM.base {w : World} {base base' G C : Nat} {g c : Nat → Nat} {m : List (List Nat)} (h : OwnM w base G C g c m) (hb : base' ≤ base) : OwnM w base' G C g c m :=
  ⟨owns_base h.outer hb, fun i hi => (h.row i hi).base hb, h.inj⟩

theorem getD_set_ne {α : Type} (m : List α) (i j : Nat) (x d : α) (h : j ≠ i) : (m.set i x).getD j d = m.getD j d := by
  rw [List.getD_eq_getElem?_getD, List.getElem?_set_ne (by omega), ← List.getD_eq_getElem?_getD]
theorem getD_set_eq {α : Type} (m : List α) (i : Nat) (x d : α) (h : i < m.length) : (m.set i x).getD i d = x := by
  rw [List.getD_eq_getElem?_getD, List.getElem?_set_self h]; rfl

theorem rvals_set (g c : Nat → Nat) (m : List (List Nat)) (i : Nat) (r : List Nat) (h : r.length = (m.getD i []).length) : rvals g c (m.set i r) = rvals g c m := by
  unfold rvals
  rw [List.length_set]
  apply List.map_congr_left
  intro j hj
  have hj' : j < m.length := by simpa using hj
  by_cases e : j = i
  · subst e; rw [getD_set_eq _ _ _ _ hj', h]
  · rw [getD_set_ne _ _ _ _ _ e]

/-- One row has been written. -/
theorem OwnM.setRow {w w' : World} {base G C : Nat} {g c : Nat → Nat} {m : List (List Nat)} (h : OwnM w base G C g c m) (i : Nat) (hi : i < m.length) (r : List Nat) (hb : Chg [g i] w w')
    (hr : OwnB w' base (g i) (c i) r) (hl : r.length = (m.getD i []).length) : OwnM w' base G C g c (m.set i r) where
  outer := by
    rw [rvals_set g c m i r hl, List.length_set]
    refine hb.owns h.outer ?_
    rintro k ⟨⟩
    have := h.ne i hi
    simp
    exact fun e => this e.symm
  row j hj := by
    rw [List.length_set] at hj
    by_cases e : j = i
    · subst e; rw [getD_set_eq _ _ _ _ hi]; exact hr
    · rw [getD_set_ne _ _ _ _ _ e]
      refine (h.row j hj).chg hb ?_
      simp
      exact fun e' => e (h.inj j i hj hi e')
  inj a b ha hb' := by rw [List.length_set] at ha hb'; exact h.inj a b ha hb'

/-- A list of one element more. -/
def snoc (n x : Nat) (g : Nat → Nat) : Nat → Nat := fun i => if i = n then x else g i
theorem snoc_at (n x : Nat) (g : Nat → Nat) : snoc n x g n = x := by simp [snoc]
theorem snoc_lt (n x i : Nat) (g : Nat → Nat) (h : i < n) : snoc n x g i = g i := by simp [snoc]; omega

theorem getD_app_lt {α : Type} (m : List α) (r d : α) (i : Nat) (h : i < m.length) : (m ++ [r]).getD i d = m.getD i d := by
  rw [List.getD_eq_getElem?_getD, List.getElem?_append_left h, ← List.getD_eq_getElem?_getD]
theorem getD_app_eq {α : Type} (m : List α) (r d : α) : (m ++ [r]).getD m.length d = r := by
  rw [List.getD_eq_getElem?_getD, List.getElem?_append_right (Nat.le_refl _)]; simp

theorem rvals_app (g c : Nat → Nat) (m : List (List Nat)) (r : List Nat) (x y : Nat) : rvals (snoc m.length x g) (snoc m.length y c) (m ++ [r]) = rvals g c m ++ [.slice (some ⟨x, 0, none⟩) r.length y] := by
  unfold rvals
  rw [List.length_append, List.length_singleton, List.range_succ, List.map_append]
  congr 1
  · apply List.map_congr_left
    intro j hj
    have hj' : j < m.length := by simpa using hj
    rw [getD_app_lt _ _ _ _ hj', snoc_lt _ _ _ _ hj', snoc_lt _ _ _ _ hj']
  · simp [snoc_at]

/-- One row more. -/
theorem OwnM.push {w : World} {base G C G' C' : Nat} {g c : Nat → Nat} {m : List (List Nat)} {w' : World} (h : OwnM w base G C g c m) (hb : Chg [G] w w') (x y : Nat) (r : List Nat)
    (hr : OwnB w' base x y r) (hx : ∀ i, i < m.length → g i ≠ x)
    (ho : w'.ownsRow base 39 1 (.slice (some ⟨G', 0, none⟩) (m.length + 1) C') (m.length + 1) (rvals g c m ++ [.slice (some ⟨x, 0, none⟩) r.length y])) :
    OwnM w' base G' C' (snoc m.length x g) (snoc m.length y c) (m ++ [r]) where
  outer := by rw [rvals_app, List.length_append]; exact ho
  row i hi := by
    rw [List.length_append, List.length_singleton] at hi
    by_cases e : i = m.length
    · subst e; rw [getD_app_eq, snoc_at, snoc_at]; exact hr
    · have hi' : i < m.length := by omega
      rw [getD_app_lt _ _ _ _ hi', snoc_lt _ _ _ _ hi', snoc_lt _ _ _ _ hi']
      refine (h.row i hi').chg hb ?_
      simp
      exact h.ne i hi'
  inj i j hi hj e := by
    rw [List.length_append, List.length_singleton] at hi hj
    by_cases e1 : i = m.length
    · by_cases e2 : j = m.length
      · omega
      · rw [e1, snoc_at, snoc_lt _ _ _ _ (by omega)] at e
        exact absurd e.symm (hx j (by omega))
    · by_cases e2 : j = m.length
      · rw [e2, snoc_at, snoc_lt _ _ _ _ (by omega)] at e
        exact absurd e (hx i (by omega))
      · rw [snoc_lt _ _ _ _ (by omega), snoc_lt _ _ _ _ (by omega)] at e
        exact h.inj i j (by omega) (by omega) e

theorem ownM_none (w : World) (base : Nat) (hb : base ≤ w.heap.size) : OwnM (w.alloc (.cells #[] 39)) base w.heap.size 0 (fun _ => 0) (fun _ => 0) [] where
  outer := World.ownsRow_lit (base := base) (e := 39) (size := 1) w #[] 0 hb (by unfold maxLen; omega) rfl
  row i hi := by simp at hi
  inj i j hi := by simp at hi

/-- append(out, row): a row of rows. -/
theorem wpList_appV {ops : Array Oper} {rest : List Oper} {o : Oper} {a : Act} {Q : Exit → Act → World → Prop} {w : World} (hgd : o.guard = none) (s x : Operand)
    (ho : o.op = .call { callee := .builtin .append, args := #[s, x], argTypes := #[80, 80] })
    (base G C n : Nat) (xs : List Value) (hs : a.eval s = .slice (some ⟨G, 0, none⟩) n C) (hown : w.ownsRow base 39 1 (.slice (some ⟨G, 0, none⟩) n C) n xs)
    (ad : Addr) (xc : Nat) (u : Value) (hx : a.eval x = .slice (some ad) 1 xc) (hu : w.cell? ad = some u) (h1 : u.oneCell' = true) (hb : n ≤ 1000000000) (hbase : base ≤ w.heap.size)
    (h : ∀ G' C' w', w'.ownsRow base 39 1 (.slice (some ⟨G', 0, none⟩) (n + 1) C') (n + 1) (xs ++ [u]) → Chg [G] w w' → (G' = G ∨ w.heap.size ≤ G') → wpList Tryz.prog ops Q rest (a.put o.dst (.slice (some ⟨G', 0, none⟩) (n + 1) C')) w') :
    wpList Tryz.prog ops Q (o :: rest) a w := by
  obtain ⟨i, hi, hz, hsz, hby⟩ := infoS
  refine wpList_append_lies w hgd s x 80 ho base 39 i (.slice none 0 0) 1 24 Tryz.underlying80 hi hz hsz hby rfl (by omega) _ _ _ hs hown ad 1 xc [u] hx rfl
    (fun j v hj => ?_) (by simpa using h1) (by omega) (by unfold maxLen; omega) (by omega) hbase w.heap.size rfl ?_
  · cases j with
    | zero =>
      simp at hj
      subst hj
      have : ad.add 0 = ad := by unfold Addr.add; split <;> simp_all
      rw [this]; exact hu
    | succ j => simp at hj
  · intro G' C' w' hown' hg hat hlt
    refine h G' C' w' hown' (Chg.of_grown hg) ?_
    rcases hat with hat | hat
    · left; cases hat; rfl
    · right; omega

end Go.Proofs.YtdgpbdedaafdiaaGreat
