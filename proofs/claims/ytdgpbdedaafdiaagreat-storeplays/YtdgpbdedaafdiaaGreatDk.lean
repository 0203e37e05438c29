/-
  What disk does: a disk in memory ('Dsk'), and in plain words ('DS', 'wrt').
  Slices of rows of bytes of the call's own ('Rws'); calls that turn some blocks and hand back others ('Mv').
-/
import Derived.Test.YtdgpbdedaafdiaaGreatWalksV1
import Derived.Test.YtdgpbdedaafdiaaGreatExt
import Derived.Laws.AppendOwnNone
namespace Go.Proofs.YtdgpbdedaafdiaaGreat
open Go.RowKit

/-- The block of an address, or none. -/
def blk : Option Addr → List Nat
  | some ad => [ad.block]
  | none => []

/-- Bytes in memory of the call's own, or none. -/
structure Con (w : World) (base : Nat) (a : Option Addr) (cap : Nat) (ps : List Nat) : Prop where
  own : w.ownsRow base 5 1 (.slice a ps.length cap) ps.length (vals ps)
  byte : Gf.Bytes ps

theorem Con.cases {w : World} {base cap : Nat} {a : Option Addr} {ps : List Nat} (h : Con w base a cap ps) : (a = none ∧ ps = [] ∧ cap = 0) ∨ ∃ g, a = some ⟨g, 0, none⟩ ∧ OwnB w base g cap ps := by
  rcases h.own.2 with ⟨e, h0⟩ | ⟨g, c, cur, e, hb, rest⟩
  · left
    injection e with e1 e2 e3
    exact ⟨e1, List.eq_nil_of_length_eq_zero h0, e3⟩
  · right
    have e' := e
    injection e' with e1 e2 e3
    subst e1 e3
    exact ⟨g, rfl, h.own, h.byte⟩

theorem Con.seenAt {w : World} {base cap : Nat} {a : Option Addr} {ps : List Nat} (h : Con w base a cap ps) : SeenAt w a cap ps := by
  rcases h.cases with ⟨rfl, rfl, rfl⟩ | ⟨g, rfl, ho⟩
  · exact SeenAt.nil (Nat.zero_le _)
  · exact ho.seenAt

theorem Con.lt {w : World} {base cap g : Nat} {a : Option Addr} {ps : List Nat} (h : Con w base a cap ps) (hg : g ∈ blk a) : base ≤ g ∧ g < w.heap.size := by
  rcases h.cases with ⟨rfl, rfl, rfl⟩ | ⟨g', rfl, ho⟩
  · simp [blk] at hg
  · simp [blk] at hg
    subst hg
    exact ho.lt

theorem Con.chg {gs : List Nat} {w w' : World} {base cap : Nat} {a : Option Addr} {ps : List Nat} (h : Con w base a cap ps) (hb : Chg gs w w') (hn : ∀ g ∈ blk a, g ∉ gs) : Con w' base a cap ps :=
  ⟨hb.owns h.own (fun g hg => hn g (by rcases a with _ | ad <;> simp [Value.ownBlock, blk] at hg ⊢; exact hg.symm)), h.byte⟩

theorem Con.nil (w : World) (base : Nat) : Con w base none 0 [] := ⟨⟨rfl, .inl ⟨rfl, rfl⟩⟩, bytes_nil⟩

/-- Where the bytes are now: where they were, in new memory, or nowhere. -/
def Went (w : World) (a a' : Option Addr) : Prop := a' = a ∨ a' = none ∨ ∃ g, a' = some ⟨g, 0, none⟩ ∧ w.heap.size ≤ g

/-- append(s, x...): bytes, s of the call's own or none, x whatever. -/
theorem wpList_appC {ops : Array Oper} {rest : List Oper} {o : Oper} {a : Act} {Q : Exit → Act → World → Prop} {w : World} (hgd : o.guard = none) (s x : Operand)
    (ho : o.op = .call { callee := .builtin .append, args := #[s, x], argTypes := #[39, 39] })
    (base : Nat) (sa : Option Addr) (cap : Nat) (ps qs : List Nat) (hs : a.eval s = .slice sa ps.length cap) (hown : Con w base sa cap ps)
    (xa : Option Addr) (xc : Nat) (hx : a.eval x = .slice xa qs.length xc) (hq : SeenAt w xa xc qs) (hb : ps.length + qs.length ≤ 1000000000) (hbase : base ≤ w.heap.size)
    (h : ∀ sa' cap' w', Con w' base sa' cap' (ps ++ qs) → Chg (blk sa) w w' → Went w sa sa' → wpList Tryz.prog ops Q rest (a.put o.dst (.slice sa' (ps ++ qs).length cap')) w') :
    wpList Tryz.prog ops Q (o :: rest) a w := by
  rcases hown.cases with ⟨rfl, rfl, rfl⟩ | ⟨g, rfl, hob⟩
  · obtain ⟨i, hi, hz, hsz, hby⟩ := info8
    by_cases h0 : qs = []
    · subst h0
      have hfin := h none 0 w (Con.nil w base) (Chg.refl _ _) (.inl rfl)
      have hrun : (Builtin.append_ #[39, 39] o.type #[.slice none 0 0, .slice xa 0 xc]).run Tryz.prog w = .ok (.slice none 0 0) w := by
        rcases xa with _ | ad
        · simp [Builtin.append_, run_underlying Tryz.underlying39, sizeOf, typeInfo, hi, Builtin.lenOf, Builtin.firstCells]
        · simp [Builtin.append_, run_underlying Tryz.underlying39, sizeOf, typeInfo, hi, Builtin.lenOf, Builtin.firstCells, loadCells, loadCellsFrom]
      have hx2 : a.eval x = .slice xa 0 xc := hx
      have hs2 : a.eval s = .slice none 0 0 := hs
      refine wpList_plain hgd fun K hK => ?_
      unfold Oper.wp
      simp [execOp, ho, resolve, invoke, builtin, hs2, hx2, hrun, Result.andThen]
      exact hK _ _ hfin
    · have hpos : 0 < qs.length := by cases qs with | nil => exact absurd rfl h0 | cons c q => simp
      obtain ⟨b, off, rfl, _⟩ := hq.cell 0 hpos
      refine wpList_append_lies w hgd s x 39 ho base 5 i (.int .u8 0) 1 1 Tryz.underlying39 hi hz hsz hby rfl (by omega) _ _ _ hs hown.own ⟨b, off, none⟩ qs.length xc (vals qs) hx (by rw [vals_len]; omega)
        (fun j u hj => ?_) (vals_one qs) hpos (by unfold maxLen; simp at hb ⊢; omega) (by simp at hb ⊢; omega) hbase w.heap.size rfl ?_
      · have hl : j < qs.length := by
          rcases Nat.lt_or_ge j qs.length with hlt | hge
          · exact hlt
          · rw [List.getElem?_eq_none (by rw [vals_len]; exact hge)] at hj; cases hj
        rw [vals_at qs j hl] at hj
        rw [← hj, Go.WideShapes.add_plain]
        obtain ⟨b', off', e, hc⟩ := hq.cell j hl
        cases e
        exact hc
      · intro g' cap' w' hown' hg hat hlt
        rw [← List.length_append]
        refine h _ cap' w' ⟨?_, bytes_app bytes_nil hq.byte⟩ (Chg.of_new hg) (.inr (.inr ⟨g', rfl, ?_⟩))
        · rw [vals_app, List.length_append]
          exact hown'
        · rcases hat with hat | hat
          · cases hat
          · omega
  · refine wpList_appB hgd s x ho base g cap ps qs hs hob xa xc hx hq hb hbase fun g' cap' w' ho' hc' hg' => ?_
    refine h _ cap' w' ⟨ho'.own, ho'.byte⟩ hc' ?_
    rcases hg' with rfl | hg'
    · exact .inl rfl
    · exact .inr (.inr ⟨g', rfl, hg'⟩)

/-- A disk in plain words. -/
structure DS where
  ps : List Nat
  room : Nat
  off : Bool
  torn : Bool
  lim : Nat

/-- What a write answers, and what the disk is then. -/
def wrt (s : DS) (b : List Nat) (rep : Bool) : Int × DS :=
  if s.off then (6, s) else
  if s.room < (if rep then 0 else s.ps.length) + b.length then (5, s) else
  if s.torn then (6, { s with off := true, ps := if b.length ≤ s.lim then (if rep then [] else s.ps) ++ b else if rep then s.ps else s.ps ++ b.take s.lim })
  else (0, { s with ps := (if rep then [] else s.ps) ++ b })

/-- A disk in block R, its bytes at a. -/
structure Dsk (w : World) (base R : Nat) (a : Option Addr) (s : DS) : Prop where
  con : ∃ cap, w.cell? ⟨R, 0, none⟩ = some (.slice a s.ps.length cap) ∧ Con w base a cap s.ps
  room : w.cell? ⟨R, 1, none⟩ = some (.int .i64 (s.room : Int))
  off : w.cell? ⟨R, 2, none⟩ = some (.bool s.off)
  torn : w.cell? ⟨R, 3, none⟩ = some (.bool s.torn)
  lim : w.cell? ⟨R, 4, none⟩ = some (.int .i64 (s.lim : Int))
  free : ∀ k, w.frozen? ⟨R, k, none⟩ = false
  ne : R ∉ blk a
  base : base ≤ R
  most : s.room ≤ 16777216
  fits : s.ps.length ≤ s.room

theorem Dsk.lt {w : World} {base R : Nat} {a : Option Addr} {s : DS} (h : Dsk w base R a s) : R < w.heap.size := World.block_lt_of_cell? w ⟨R, 1, none⟩ h.room

theorem Dsk.chg {gs : List Nat} {w w' : World} {base R : Nat} {a : Option Addr} {s : DS} (h : Dsk w base R a s) (hb : Chg gs w w') (hR : R ∉ gs) (hg : ∀ g ∈ blk a, g ∉ gs) : Dsk w' base R a s := by
  obtain ⟨cap, hc, ho⟩ := h.con
  exact ⟨⟨cap, hb.cell hc hR, ho.chg hb hg⟩, hb.cell h.room hR, hb.cell h.off hR, hb.cell h.torn hR, hb.cell h.lim hR,
    fun k => by rw [World.frozen?_of_block (hb.block R h.lt hR)]; exact h.free k, h.ne, h.base, h.most, h.fits⟩

theorem Dsk.below {w w' : World} {base R : Nat} {a : Option Addr} {s : DS} (h : Dsk w base R a s) (hb : Below w.heap.size w w') : Dsk w' base R a s := h.chg (gs := []) (Chg.of_below hb) (by simp) (by simp)

theorem Dsk.alike {w w' : World} {base R : Nat} {a : Option Addr} {s : DS} (h : Dsk w base R a s) (e : w'.heap = w.heap) : Dsk w' base R a s := by
  obtain ⟨cap, hc, ho⟩ := h.con
  refine ⟨⟨cap, by rw [← hc]; simp [World.cell?, e], ?_⟩, by rw [← h.room]; simp [World.cell?, e], by rw [← h.off]; simp [World.cell?, e], by rw [← h.torn]; simp [World.cell?, e], by rw [← h.lim]; simp [World.cell?, e],
    fun k => by rw [← h.free k]; simp [World.frozen?, e], h.ne, h.base, h.most, h.fits⟩
  refine ⟨⟨ho.own.1, ?_⟩, ho.byte⟩
  rcases ho.own.2 with h1 | ⟨g', cap', cur, hv, hb, hg, rest⟩
  · exact .inl h1
  · exact .inr ⟨g', cap', cur, hv, hb, by rw [e]; exact hg, rest⟩

/-- A cell of the disk is set. -/
theorem Dsk.setOff {w : World} {base R : Nat} {a : Option Addr} {s : DS} (h : Dsk w base R a s) (x : Bool) : Dsk (w.setCell ⟨R, 2, none⟩ (.bool x)) base R a { s with off := x } := by
  obtain ⟨cap, hc, ho⟩ := h.con
  refine ⟨⟨cap, ?_, ho.chg (chg_set1 w R 2 _) (fun g hg e => h.ne (by simpa using (by simpa using e : g = R) ▸ hg))⟩, ?_, World.cell?_setCell_same _ _ _ h.off, ?_, ?_, fun k => by rw [World.frozen?_setCell]; exact h.free k, h.ne, h.base, h.most, h.fits⟩
  all_goals rw [World.cell?_setCell_other _ _ _ _ (by simp)]
  · exact hc
  · exact h.room
  · exact h.torn
  · exact h.lim

theorem Dsk.setTorn {w : World} {base R : Nat} {a : Option Addr} {s : DS} (h : Dsk w base R a s) (x : Bool) : Dsk (w.setCell ⟨R, 3, none⟩ (.bool x)) base R a { s with torn := x } := by
  obtain ⟨cap, hc, ho⟩ := h.con
  refine ⟨⟨cap, ?_, ho.chg (chg_set1 w R 3 _) (fun g hg e => h.ne (by simpa using (by simpa using e : g = R) ▸ hg))⟩, ?_, ?_, World.cell?_setCell_same _ _ _ h.torn, ?_, fun k => by rw [World.frozen?_setCell]; exact h.free k, h.ne, h.base, h.most, h.fits⟩
  all_goals rw [World.cell?_setCell_other _ _ _ _ (by simp)]
  · exact hc
  · exact h.room
  · exact h.off
  · exact h.lim

theorem Dsk.setLim {w : World} {base R : Nat} {a : Option Addr} {s : DS} (h : Dsk w base R a s) (x : Nat) : Dsk (w.setCell ⟨R, 4, none⟩ (.int .i64 (x : Int))) base R a { s with lim := x } := by
  obtain ⟨cap, hc, ho⟩ := h.con
  refine ⟨⟨cap, ?_, ho.chg (chg_set1 w R 4 _) (fun g hg e => h.ne (by simpa using (by simpa using e : g = R) ▸ hg))⟩, ?_, ?_, ?_, World.cell?_setCell_same _ _ _ h.lim, fun k => by rw [World.frozen?_setCell]; exact h.free k, h.ne, h.base, h.most, h.fits⟩
  all_goals rw [World.cell?_setCell_other _ _ _ _ (by simp)]
  · exact hc
  · exact h.room
  · exact h.off
  · exact h.torn

/-- Other bytes are laid into the disk. -/
theorem Dsk.put {w : World} {base R : Nat} {a : Option Addr} {s : DS} (h : Dsk w base R a s) {a' : Option Addr} {cap' : Nat} {ps : List Nat} (ho : Con w base a' cap' ps) (hne : R ∉ blk a') (hf : ps.length ≤ s.room) :
    Dsk (w.setCell ⟨R, 0, none⟩ (.slice a' ps.length cap')) base R a' { s with ps := ps } := by
  obtain ⟨cap, hc, _⟩ := h.con
  refine ⟨⟨cap', World.cell?_setCell_same _ _ _ hc, ho.chg (chg_set1 w R 0 _) (fun g hg e => hne (by simpa using (by simpa using e : g = R) ▸ hg))⟩, ?_, ?_, ?_, ?_, fun k => by rw [World.frozen?_setCell]; exact h.free k, hne, h.base, h.most, hf⟩
  all_goals rw [World.cell?_setCell_other _ _ _ _ (by simp)]
  · exact h.room
  · exact h.off
  · exact h.torn
  · exact h.lim

/-- The room of New(n). -/
def roomOf (n : Int) : Nat := if n < 0 then 0 else if 16777216 < n then 16777216 else n.toNat

set_option maxHeartbeats 1000000 in
theorem disk_new (n : Int) (w : World) :
    Calls Tryz.prog 4 #[.int .i64 n] w fun e w' => ∃ R, e = .returned (.pointer (some ⟨R, 0, none⟩)) ∧ R = w.heap.size ∧ Dsk w' w.heap.size R none ⟨[], roomOf n, false, false, 0⟩ ∧ Below w.heap.size w w' := by
  have HD : ∀ m : Nat, m ≤ 16777216 → Dsk (w.alloc (.cells #[.slice none 0 0, .int .i64 (m : Int), .bool false, .bool false, .int .i64 0] 55)) w.heap.size w.heap.size none ⟨[], m, false, false, 0⟩ := fun m hm =>
    ⟨⟨0, by simp, Con.nil _ _⟩, by simp, by simp, by simp, by simp, fun k => by simp, by simp [blk], Nat.le_refl _, hm, Nat.zero_le _⟩
  by_cases h1 : n < 0
  · have hm := Lib.hid (HD 0 (by omega))
    have e : roomOf n = 0 := by unfold roomOf; rw [if_pos h1]
    rw [e]
    have hx : max n 0 = 0 := by omega
    clear HD e
    go_enter Tryz.func4, Tryz.ntmps4
    go_wp2
    go_ret
    exact ⟨_, rfl, rfl, hm.out, below_one _ _⟩
  · by_cases h2 : 16777216 < n
    · have hm := Lib.hid (HD 16777216 (by omega))
      have e : roomOf n = 16777216 := by unfold roomOf; rw [if_neg h1, if_pos h2]
      rw [e]
      clear HD e
      go_enter Tryz.func4, Tryz.ntmps4
      go_wp2
      go_ret
      exact ⟨_, rfl, rfl, hm.out, below_one _ _⟩
    · obtain ⟨m, rfl⟩ : ∃ m : Nat, n = (m : Int) := ⟨n.toNat, by omega⟩
      have hm := Lib.hid (HD m (by omega))
      have e : roomOf (m : Int) = m := by unfold roomOf; rw [if_neg h1, if_neg h2]; simp
      rw [e]
      clear HD e
      go_enter Tryz.func4, Tryz.ntmps4
      go_wp2
      go_ret
      exact ⟨_, rfl, rfl, hm.out, below_one _ _⟩

end Go.Proofs.YtdgpbdedaafdiaaGreat

namespace Go.Proofs.YtdgpbdedaafdiaaGreat
open Go.RowKit

/-- A row of bytes as it lies in memory. -/
structure Rw where
  loc : Option Addr
  cap : Nat
  ps : List Nat

def Rw.val (x : Rw) : Value := .slice x.loc x.ps.length x.cap

/-- A slice of rows of the call's own (or nil); the rows are only read, and lie in other blocks. -/
structure Rws (w : World) (base : Nat) (ga : Option Addr) (cap : Nat) (xs : List Rw) : Prop where
  own : w.ownsRow base 39 1 (.slice ga xs.length cap) xs.length (xs.map Rw.val)
  seen : ∀ x ∈ xs, SeenAt w x.loc x.cap x.ps
  far : ∀ x ∈ xs, ∀ g ∈ blk x.loc, g ∉ blk ga ∧ g < w.heap.size

theorem rws_nil (w : World) (base : Nat) : Rws w base none 0 [] := ⟨World.ownsRow_nil _ _ _ _, by simp, by simp⟩

theorem seen_chg {w w' : World} {a : Option Addr} {cap : Nat} {ps : List Nat} {gs : List Nat} (h : SeenAt w a cap ps) (hb : Chg gs w w') (hn : ∀ g ∈ blk a, g ∉ gs) : SeenAt w' a cap ps :=
  h.chg hb fun b off e => by subst e; exact hn b (by simp [blk])

theorem Rws.cases {w : World} {base cap : Nat} {ga : Option Addr} {xs : List Rw} (h : Rws w base ga cap xs) : (ga = none ∧ xs = [] ∧ cap = 0) ∨ ∃ g, ga = some ⟨g, 0, none⟩ := by
  rcases h.own.2 with ⟨e, h0⟩ | ⟨g, c, cur, e, hb, rest⟩
  · left
    injection e with e1 e2 e3
    exact ⟨e1, List.eq_nil_of_length_eq_zero h0, e3⟩
  · right
    injection e with e1 e2 e3
    exact ⟨g, e1⟩

theorem Rws.lt {w : World} {base cap g : Nat} {ga : Option Addr} {xs : List Rw} (h : Rws w base ga cap xs) (hg : g ∈ blk ga) : base ≤ g ∧ g < w.heap.size := by
  rcases h.cases with ⟨rfl, _, _⟩ | ⟨g', rfl⟩
  · simp [blk] at hg
  · simp [blk] at hg
    subst hg
    exact World.ownsRow.lt h.own g rfl

theorem Rws.chg {w w' : World} {base cap : Nat} {ga : Option Addr} {xs : List Rw} {gs : List Nat} (h : Rws w base ga cap xs) (hb : Chg gs w w') (hg : ∀ g ∈ blk ga, g ∉ gs) (hx : ∀ x ∈ xs, ∀ g ∈ blk x.loc, g ∉ gs) : Rws w' base ga cap xs :=
  ⟨hb.owns h.own (fun g e => hg g (by rcases ga with _ | ad <;> simp [Value.ownBlock, blk] at e ⊢; exact e.symm)), fun x hx' => seen_chg (h.seen x hx') hb (hx x hx'), fun x hx' g hg' => ⟨(h.far x hx' g hg').1, Nat.lt_of_lt_of_le (h.far x hx' g hg').2 hb.size⟩⟩

theorem Rws.below {w w' : World} {base cap : Nat} {ga : Option Addr} {xs : List Rw} (h : Rws w base ga cap xs) (hb : Below w.heap.size w w') : Rws w' base ga cap xs := h.chg (gs := []) (Chg.of_below hb) (by simp) (by simp)

/-- What a row of the slice is. -/
theorem Rws.row {w : World} {base cap : Nat} {ga : Option Addr} {xs : List Rw} (h : Rws w base ga cap xs) (d : Rw) (i : Nat) (hi : i < xs.length) : ∃ g, ga = some ⟨g, 0, none⟩ ∧ w.cell? ⟨g, i, none⟩ = some (xs.getD i d).val := by
  rcases h.cases with ⟨_, rfl, _⟩ | ⟨g, rfl⟩
  · simp at hi
  · refine ⟨g, rfl, ?_⟩
    rw [World.ownsRow.cellAt h.own i (by omega), List.getElem?_map, List.getElem?_eq_getElem hi, List.getD_eq_getElem?_getD, List.getElem?_eq_getElem hi]
    rfl

theorem Rws.le {w : World} {base cap : Nat} {ga : Option Addr} {xs : List Rw} (h : Rws w base ga cap xs) : xs.length ≤ cap ∧ cap ≤ maxLen := by
  rcases h.own.2 with ⟨e, h0⟩ | ⟨g, c, cur, e, hb, hg, hnc, hcm, _⟩
  · injection e with e1 e2 e3
    unfold maxLen
    omega
  · injection e with e1 e2 e3
    subst e3
    exact ⟨hnc, hcm⟩

/-- append(rows, row), the row laid in a block of its own. -/
theorem wpList_appRw {ops : Array Oper} {rest : List Oper} {o : Oper} {a : Act} {Q : Exit → Act → World → Prop} {w : World} (hgd : o.guard = none) (s x : Operand)
    (ho : o.op = .call { callee := .builtin .append, args := #[s, x], argTypes := #[80, 80] })
    (base : Nat) (ga : Option Addr) (cap : Nat) (xs : List Rw) (n : Nat) (hn : xs.length = n) (hs : a.eval s = .slice ga n cap) (hown : Rws w base ga cap xs) (y : Rw)
    (B xc : Nat) (hx : a.eval x = .slice (some ⟨B, 0, none⟩) 1 xc) (hc : w.cell? ⟨B, 0, none⟩ = some y.val) (hb : n ≤ 1000000000) (hbase : base ≤ w.heap.size)
    (hsy : SeenAt w y.loc y.cap y.ps) (hfy : ∀ g ∈ blk y.loc, g ∉ blk ga ∧ g < w.heap.size)
    (h : ∀ g' cap' w', Rws w' base (some ⟨g', 0, none⟩) cap' (xs ++ [y]) → Chg (blk ga) w w' → (g' ∈ blk ga ∨ w.heap.size ≤ g') → wpList Tryz.prog ops Q rest (a.put o.dst (.slice (some ⟨g', 0, none⟩) (n + 1) cap')) w') :
    wpList Tryz.prog ops Q (o :: rest) a w := by
  obtain ⟨i, hi, hz, hsz, hby⟩ := infoS
  subst hn
  refine wpList_append_lies w hgd s x 80 ho base 39 i _ 1 24 Tryz.underlying80 hi hz hsz hby rfl (by omega) _ _ _ hs hown.own ⟨B, 0, none⟩ 1 xc [y.val] hx rfl
    (fun j u hj => ?_) (by simp [Rw.val, Value.oneCell']) (by omega) (by unfold maxLen; omega) (by omega) hbase w.heap.size rfl ?_
  · cases j with
    | zero =>
      simp at hj
      subst hj
      rw [Go.WideShapes.add_plain]
      exact hc
    | succ j => simp at hj
  · intro g' cap' w' hown' hg hat hlt
    have hat' : g' ∈ blk ga ∨ w.heap.size ≤ g' := by
      rcases hat with hat | hat
      · left
        rcases ga with _ | ad
        · simp [Value.ownBlock] at hat
        · simpa [Value.ownBlock, blk] using hat.symm
      · right; omega
    have hchg : Chg (blk ga) w w' := by
      rcases ga with _ | ad
      · exact Chg.of_new hg
      · exact Chg.of_grown hg
    refine h g' cap' w' ⟨?_, fun z hz' => ?_, fun z hz' g hgz => ?_⟩ hchg hat'
    · rw [List.map_append, List.length_append]
      exact hown'
    · rcases List.mem_append.mp hz' with hz' | hz'
      · exact seen_chg (hown.seen z hz') hchg fun g hgz => (hown.far z hz' g hgz).1
      · rw [List.mem_singleton.mp hz'] at *
        exact seen_chg hsy hchg fun g hgz => (hfy g hgz).1
    · have key : g ∉ blk ga ∧ g < w.heap.size := by
        rcases List.mem_append.mp hz' with hz' | hz'
        · exact hown.far z hz' g hgz
        · rw [List.mem_singleton.mp hz'] at hgz
          exact hfy g hgz
      refine ⟨?_, Nat.lt_of_lt_of_le key.2 hchg.size⟩
      simp only [blk, List.mem_singleton]
      rintro rfl
      rcases hat' with h1 | h1
      · exact key.1 h1
      · omega

/-- Of the old blocks only those of M have turned, and those of M' are among them or new. -/
structure Mv (w w' : World) (M M' : List Nat) : Prop where
  chg : Chg M w w'
  now : ∀ g ∈ M', g ∈ M ∨ w.heap.size ≤ g

theorem Mv.refl (w : World) (M : List Nat) : Mv w w M M := ⟨Chg.refl _ _, fun _ h => .inl h⟩

theorem Mv.of_below {w w' : World} (M : List Nat) (h : Below w.heap.size w w') : Mv w w' M M := ⟨Chg.of_below h, fun _ h => .inl h⟩

theorem Mv.trans {w w1 w2 : World} {M M1 M2 : List Nat} (h : Mv w w1 M M1) (k : Mv w1 w2 M1 M2) : Mv w w2 M M2 := by
  refine ⟨⟨k.chg.os.trans h.chg.os, k.chg.tape.trans h.chg.tape, k.chg.output.trans h.chg.output, Nat.le_trans h.chg.size k.chg.size, fun i hi hn => ?_⟩, fun g hg => ?_⟩
  · refine (k.chg.block i (Nat.lt_of_lt_of_le hi h.chg.size) fun hm => ?_).trans (h.chg.block i hi hn)
    rcases h.now i hm with h1 | h1
    · exact hn h1
    · omega
  · rcases k.now g hg with h1 | h1
    · exact h.now g h1
    · exact .inr (Nat.le_trans h.chg.size h1)

theorem Mv.below {w0 w w' : World} {M M' : List Nat} (h : Mv w w' M M') (hb : Below w0.heap.size w0 w) (hM : ∀ g ∈ M, w0.heap.size ≤ g) : Below w0.heap.size w0 w' ∧ ∀ g ∈ M', w0.heap.size ≤ g :=
  ⟨h.chg.below hb hb.size hM, fun g hg => by
    rcases h.now g hg with h1 | h1
    · exact hM g h1
    · exact Nat.le_trans hb.size h1⟩

end Go.Proofs.YtdgpbdedaafdiaaGreat
