/-
  Slices of messages ([]api.Msg: nineteen cells an element) in memory; append of raw cells as one operation; a message that is loaded from the middle of a block; an argument that is a slice of messages. (For stages 13 and on; the slice's own type is a parameter, so that this builds on any seat that has api.Msg.)
  What is known of arguments that are slices of acts of layer 13 (three integers and a message, 22 cells), or slices of messages. The act's type is a parameter; what names it stands last and drops out where it is not there.
-/
import Derived.Test.YtggjpjpemgpeeaaGreatArgM
import Derived.Test.YtggjpjpemgpeeaaGreatLd
import Derived.Test.YtggjpjpemgpeeaaGreatWalksH8
import Derived.Test.YtggjpjpemgpeeaaGreatWalksI0
import Derived.Test.YtggjpjpemgpeeaaGreatExt3
namespace Go.Proofs.YtggjpjpemgpeeaaGreat
open Go.ChangeShapes Go.WideShapes Go.ChangeAt Go.RowKit

/-! ## Messages in a row -/

/-- The cells of messages. -/
def mvals : List Rm → List Value
  | [] => []
  | r :: rs => r.cells.toList ++ mvals rs

theorem cells_len (r : Rm) : r.cells.toList.length = 19 := rfl
theorem cells_size (r : Rm) : r.cells.size = 19 := rfl

theorem mvals_app (xs ys : List Rm) : mvals (xs ++ ys) = mvals xs ++ mvals ys := by
  induction xs with
  | nil => rfl
  | cons x xs ih => simp [mvals, ih]

theorem mvals_snoc (xs : List Rm) (y : Rm) : mvals (xs ++ [y]) = mvals xs ++ y.cells.toList := by
  rw [mvals_app]
  show _ ++ (_ ++ []) = _
  rw [List.append_nil]

theorem mvals_len (xs : List Rm) : (mvals xs).length = xs.length * 19 := by
  induction xs with
  | nil => rfl
  | cons x xs ih =>
    show (x.cells.toList ++ mvals xs).length = _
    rw [List.length_append, ih, cells_len, List.length_cons]
    omega

theorem mvals_one (xs : List Rm) : ∀ u ∈ mvals xs, u.oneCell' = true := by
  induction xs with
  | nil => intro u hu; cases hu
  | cons x xs ih =>
    intro u hu
    rcases List.mem_append.mp hu with h | h
    · exact cells_ones x u h
    · exact ih u h

theorem mvals_at : ∀ (xs : List Rm) (i k : Nat), i < xs.length → k < 19 → (mvals xs)[i * 19 + k]? = (xs.getD i rm0).cells[k]?
  | [], i, k, h, _ => by simp at h
  | x :: xs, 0, k, _, hk => by
    show (x.cells.toList ++ mvals xs)[0 * 19 + k]? = _
    rw [List.getElem?_append_left (by rw [cells_len]; omega), Nat.zero_mul, Nat.zero_add, Array.getElem?_toList]
    rfl
  | x :: xs, i + 1, k, h, hk => by
    have := mvals_at xs i k (by simpa using h) hk
    show (x.cells.toList ++ mvals xs)[(i + 1) * 19 + k]? = _
    rw [List.getElem?_append_right (by rw [cells_len]; omega), show (i + 1) * 19 + k - x.cells.toList.length = i * 19 + k by rw [cells_len]; omega, this]
    rfl

theorem mvals_take (xs : List Rm) (n : Nat) : mvals (xs.take n) = (mvals xs).take (n * 19) := by
  induction xs generalizing n with
  | nil => simp [mvals]
  | cons x xs ih =>
    cases n with
    | zero => simp [mvals]
    | succ n =>
      show x.cells.toList ++ mvals (xs.take n) = (x.cells.toList ++ mvals xs).take ((n + 1) * 19)
      rw [ih, List.take_append, List.take_of_length_le (l := x.cells.toList) (by rw [cells_len]; omega), cells_len, show (n + 1) * 19 - 19 = n * 19 by omega]

theorem mvals_drop (xs : List Rm) (n : Nat) : mvals (xs.drop n) = (mvals xs).drop (n * 19) := by
  induction xs generalizing n with
  | nil => simp [mvals]
  | cons x xs ih =>
    cases n with
    | zero => simp [mvals]
    | succ n =>
      show mvals (xs.drop n) = (x.cells.toList ++ mvals xs).drop ((n + 1) * 19)
      rw [ih, List.drop_append, List.drop_of_length_le (l := x.cells.toList) (by rw [cells_len]; omega), cells_len, show (n + 1) * 19 - 19 = n * 19 by omega, List.nil_append]

/-- The cells behind the address a hold the messages rs; their parts are read in w. -/
structure MsgsAt (w : World) (a : Option Addr) (cap : Nat) (rs : List Rm) : Prop where
  le : rs.length ≤ cap
  max : cap ≤ maxLen
  cell : ∀ i, i < rs.length → ∃ b off, a = some ⟨b, off, none⟩ ∧ ∀ k v, (rs.getD i rm0).cells[k]? = some v → w.cell? ⟨b, off + i * 19 + k, none⟩ = some v
  at_ : ∀ r ∈ rs, MsgAt w r

theorem MsgsAt.below {w w' : World} {a : Option Addr} {cap : Nat} {rs : List Rm} (h : MsgsAt w a cap rs) (hb : Below w.heap.size w w') : MsgsAt w' a cap rs :=
  ⟨h.le, h.max, fun i hi => by obtain ⟨b, off, e, hc⟩ := h.cell i hi; exact ⟨b, off, e, fun k v hk => cell_later hb (hc k v hk)⟩, fun r hr => (h.at_ r hr).below hb⟩

theorem MsgsAt.nil {w : World} {a : Option Addr} {cap : Nat} (h : cap ≤ maxLen) : MsgsAt w a cap [] := ⟨Nat.zero_le _, h, fun i hi => by simp at hi, by simp⟩

theorem MsgsAt.get {w : World} {a : Option Addr} {cap : Nat} {rs : List Rm} (h : MsgsAt w a cap rs) (i : Nat) (hi : i < rs.length) : MsgAt w (rs.getD i rm0) := h.at_ _ (getD_mem rs i rm0 hi)

/-- A message from place o of block B on. -/
def BoxO (w : World) (B o : Nat) (C : Array Value) : Prop := ∀ (k : Nat) (v : Value), C[k]? = some v → w.cell? ⟨B, o + k, none⟩ = some v

theorem BoxO.below {w w' : World} {B o : Nat} {C : Array Value} (h : BoxO w B o C) (hb : Below w.heap.size w w') : BoxO w' B o C := fun k v hv => cell_later hb (h k v hv)

theorem MsgsAt.box {w : World} {b off cap : Nat} {rs : List Rm} (h : MsgsAt w (some ⟨b, off, none⟩) cap rs) (i : Nat) (hi : i < rs.length) : BoxO w b (off + i * 19) (rs.getD i rm0).cells := by
  obtain ⟨b', off', e, hc⟩ := h.cell i hi
  cases e
  exact hc

theorem msgs_row {w : World} {base n c : Nat} {e : TypeId} {a : Option Addr} {rs : List Rm} (h : w.ownsRow base e 19 (.slice a n c) n (mvals rs)) (hn : rs.length = n) (hr : ∀ r ∈ rs, MsgAt w r) : MsgsAt w a c rs := by
  subst hn
  rcases h.2 with ⟨hv, h0⟩ | ⟨g, cap', cur, hv, _, hg, hnc, hcm, _⟩
  · have e0 : rs = [] := List.length_eq_zero_iff.mp h0
    subst e0
    cases hv
    exact MsgsAt.nil (Nat.zero_le _)
  · cases hv
    refine ⟨hnc, hcm, fun i hi => ⟨g, 0, rfl, fun k v hk => ?_⟩, hr⟩
    have hk19 : k < 19 := by
      have := (Array.getElem?_eq_some_iff.1 hk).1
      rwa [cells_size] at this
    rw [Nat.zero_add, World.ownsRow.cellAt h (i * 19 + k) (by omega), mvals_at rs i k hi hk19]
    exact hk

/-! ## A message is loaded from the middle of a block -/

theorem run_ldMo {W : World} (B o : Nat) (C : Array Value) (hn : C.size = 19) (h : BoxO W B o C) : (Go.Instr.loadAt 40 (.pointer (some ⟨B, o, none⟩))).run Tryz.prog W = .ok (.agg C) W :=
  run_ld 40 19 B o C (by kernel_rfl) (by kernel_rfl) hn h

theorem wpList_ldMo {ops : Array Oper} {rest : List Oper} {o : Oper} {a : Act} {Q : Exit → Act → World → Prop} {w : World} (s : Operand) (B off : Nat) (C : Array Value) (hgd : o.guard = none) (ho : o.op = .load 40 s)
    (hs : a.eval s = .pointer (some ⟨B, off, none⟩)) (hn : C.size = 19) (hb : BoxO w B off C) (h : wpList Tryz.prog ops Q rest (a.put o.dst (.agg C)) w) : wpList Tryz.prog ops Q (o :: rest) a w := by
  have hrun := run_ldMo B off C hn hb
  refine wpList_plain hgd fun K hK => ?_
  unfold Oper.wp
  simp [execOp, ho, hs, hrun, Result.andThen]
  exact hK _ _ h

theorem exec_ldMo {ev : Operand → Value} {o : Oper} {w : World} (s : Operand) (B off : Nat) (C : Array Value) (ho : o.op = .load 40 s) (hs : ev s = .pointer (some ⟨B, off, none⟩)) (hn : C.size = 19) (hb : BoxO w B off C) : (execOp ev o).run Tryz.prog w = .ok (.value (.agg C)) w := by
  have hrun := run_ldMo B off C hn hb
  simp [execOp, ho, hs, hrun, Result.andThen]

/-! ## Append of raw cells -/

theorem infoM : (Tryz.prog.info? 40).map (fun i => (i.zero, i.size, i.bytes)) = some (some (.agg rm0.cells), 19, 256) := by kernel_rfl

set_option maxRecDepth 100000 in
/-- append(list, more...) as one operation: cells by name. -/
theorem wp_appRow {o : Oper} {a : Act} {K : Act → World → Prop} {Q : Exit → Act → World → Prop} {w : World} (s x : Operand) (t e : TypeId)
    (ho : o.op = .call { callee := .builtin .append, args := #[s, x], argTypes := #[t, t] })
    (ht : Tryz.prog.underlying t = some (.slice e)) (z : Value) (size bytes : Nat)
    (hinfo : (Tryz.prog.info? e).map (fun i => (i.zero, i.size, i.bytes)) = some (some z, size, bytes)) (hzs : z.cells.size = size) (hsz : 0 < size) (hbb : bytes ≤ 1000)
    (base : Nat) (va : Option Addr) (vc n : Nat) (xs : List Value) (hs : a.eval s = .slice va n vc) (hown : w.ownsRow base e size (.slice va n vc) n xs)
    (xa : Option Addr) (m xc : Nat) (ys : List Value) (hx : a.eval x = .slice xa m xc) (hl : ys.length = m * size)
    (hq : ∀ j u, ys[j]? = some u → ∃ b off, xa = some ⟨b, off, none⟩ ∧ w.cell? ⟨b, off + j, none⟩ = some u) (h1 : ∀ u ∈ ys, u.oneCell' = true) (hb : n + m ≤ 1000000) (hbase : base ≤ w.heap.size)
    (h : ∀ va' vc' w', w'.ownsRow base e size (.slice va' (n + m) vc') (n + m) (xs ++ ys) → w.grownBy w' (Value.ownBlock (.slice va n vc)) → K (a.put o.dst (.slice va' (n + m) vc')) w') : Oper.wp Tryz.prog o a w K Q := by
  obtain ⟨i, hi, hz, hsize, hby⟩ := info_parts hinfo
  by_cases h0 : m = 0
  · subst h0
    obtain rfl : ys = [] := List.length_eq_zero_iff.mp (by omega)
    have hfin := h va vc w (by rw [List.append_nil]; exact hown) ⟨rfl, rfl, rfl, Nat.le_refl _, fun i _ _ => rfl⟩
    have hrun : (Builtin.append_ #[t, t] o.type #[.slice va n vc, .slice xa 0 xc]).run Tryz.prog w = .ok (.slice va n vc) w := by
      rcases hown.2 with ⟨hv, hn0⟩ | ⟨g, cap', cur, hv, _, _, hnc, _, _⟩
      · injection hv with e1 e2 e3
        subst e1 e2 e3
        rcases xa with _ | ad
        · simp [Builtin.append_, run_underlying ht, sizeOf, typeInfo, hi, Builtin.lenOf, Builtin.firstCells]
        · simp [Builtin.append_, run_underlying ht, sizeOf, typeInfo, hi, Builtin.lenOf, Builtin.firstCells, loadCells, loadCellsFrom]
      · injection hv with e1 e2 e3
        subst e1 e3
        rcases xa with _ | ad
        · simp [Builtin.append_, run_underlying ht, sizeOf, typeInfo, hi, Builtin.lenOf, Builtin.firstCells, hnc, storeCells]
        · simp [Builtin.append_, run_underlying ht, sizeOf, typeInfo, hi, Builtin.lenOf, Builtin.firstCells, hnc, storeCells, loadCells, loadCellsFrom]
    unfold Oper.wp
    simp [execOp, ho, resolve, invoke, builtin, hs, hx, hrun, Result.andThen]
    exact hfin
  · have hpos : 0 < m := by omega
    have hp8 : 0 < ys.length := by rw [hl]; exact Nat.mul_pos hpos hsz
    obtain ⟨b, off, rfl, _⟩ := hq 0 _ (List.getElem?_eq_getElem hp8)
    refine wp_append_lies w s x t ho base e i _ size bytes ht hi hz hsize hby hzs hsz _ _ _ hs hown ⟨b, off, none⟩ m xc ys hx hl
      (fun j u hj => ?_) h1 hpos (by unfold maxLen; omega) (Nat.le_trans (Nat.mul_le_mul hb hbb) (by omega)) hbase w.heap.size rfl ?_
    · obtain ⟨b', off', e', hc⟩ := hq j u hj
      cases e'
      rw [Go.WideShapes.add_plain]
      exact hc
    · intro g' cap' w' hown' hg _ _
      exact h (some ⟨g', 0, none⟩) cap' w' hown' hg

/-- .. outside a region. -/
theorem wpList_appRow {ops : Array Oper} {rest : List Oper} {o : Oper} {a : Act} {Q : Exit → Act → World → Prop} {w : World} (hgd : o.guard = none) (s x : Operand) (t e : TypeId)
    (ho : o.op = .call { callee := .builtin .append, args := #[s, x], argTypes := #[t, t] })
    (ht : Tryz.prog.underlying t = some (.slice e)) (z : Value) (size bytes : Nat)
    (hinfo : (Tryz.prog.info? e).map (fun i => (i.zero, i.size, i.bytes)) = some (some z, size, bytes)) (hzs : z.cells.size = size) (hsz : 0 < size) (hbb : bytes ≤ 1000)
    (base : Nat) (va : Option Addr) (vc n : Nat) (xs : List Value) (hs : a.eval s = .slice va n vc) (hown : w.ownsRow base e size (.slice va n vc) n xs)
    (xa : Option Addr) (m xc : Nat) (ys : List Value) (hx : a.eval x = .slice xa m xc) (hl : ys.length = m * size)
    (hq : ∀ j u, ys[j]? = some u → ∃ b off, xa = some ⟨b, off, none⟩ ∧ w.cell? ⟨b, off + j, none⟩ = some u) (h1 : ∀ u ∈ ys, u.oneCell' = true) (hb : n + m ≤ 1000000) (hbase : base ≤ w.heap.size)
    (h : ∀ va' vc' w', w'.ownsRow base e size (.slice va' (n + m) vc') (n + m) (xs ++ ys) → w.grownBy w' (Value.ownBlock (.slice va n vc)) → wpList Tryz.prog ops Q rest (a.put o.dst (.slice va' (n + m) vc')) w') : wpList Tryz.prog ops Q (o :: rest) a w :=
  wpList_plain hgd fun _ hK => wp_appRow s x t e ho ht z size bytes hinfo hzs hsz hbb base va vc n xs hs hown xa m xc ys hx hl hq h1 hb hbase fun va' vc' w' h2 h3 => hK _ _ (h va' vc' w' h2 h3)

/-- The cells of messages that are read somewhere. -/
theorem MsgsAt.raw {w : World} {a : Option Addr} {cap : Nat} {rs : List Rm} (h : MsgsAt w a cap rs) : ∀ j u, (mvals rs)[j]? = some u → ∃ b off, a = some ⟨b, off, none⟩ ∧ w.cell? ⟨b, off + j, none⟩ = some u := fun j u hj => by
  have hlt : j < (mvals rs).length := by
    rcases Nat.lt_or_ge j (mvals rs).length with h | h
    · exact h
    · rw [List.getElem?_eq_none h] at hj; cases hj
  rw [mvals_len] at hlt
  have hd : j / 19 < rs.length := by omega
  obtain ⟨b, off, e, hc⟩ := h.cell (j / 19) hd
  refine ⟨b, off, e, ?_⟩
  have e1 : j = j / 19 * 19 + j % 19 := by omega
  have := mvals_at rs (j / 19) (j % 19) hd (by omega)
  rw [← e1, hj] at this
  have := hc (j % 19) u this.symm
  rwa [Nat.add_assoc, ← e1] at this

/-- A slice of messages of the call's own (or nil), whose parts lie in memory of the world w0. -/
structure LsM (w0 w : World) (e : TypeId) (v : Value) (rs : List Rm) : Prop where
  own : w.ownsRow w0.heap.size e 19 v rs.length (mvals rs)
  at_ : ∀ r ∈ rs, MsgAt w0 r

theorem LsM.chg {gs : List Nat} {w0 w w' : World} {e : TypeId} {v : Value} {rs : List Rm} (h : LsM w0 w e v rs) (hb : Chg gs w w') (hn : ∀ g, v.ownBlock = some g → g ∉ gs) : LsM w0 w' e v rs := ⟨hb.owns h.own hn, h.at_⟩

theorem LsM.below {w0 w w' : World} {e : TypeId} {v : Value} {rs : List Rm} (h : LsM w0 w e v rs) (hb : Below w.heap.size w w') : LsM w0 w' e v rs := h.chg (gs := []) (Chg.of_below hb) (by simp)

theorem LsM.lt {w0 w : World} {e : TypeId} {v : Value} {rs : List Rm} (h : LsM w0 w e v rs) (g : Nat) (hg : v.ownBlock = some g) : w0.heap.size ≤ g ∧ g < w.heap.size := World.ownsRow.lt h.own g hg

theorem lsM_nil (w0 w : World) (e : TypeId) : LsM w0 w e (.slice none 0 0) [] := ⟨World.ownsRow_nil _ _ _ _, by simp⟩

theorem lsM_lit (w0 w : World) (e : TypeId) (B : Nat) (hB : w.heap.size = B) (h : w0.heap.size ≤ w.heap.size) : LsM w0 (w.alloc (.cells #[] e)) e (.slice (some ⟨B, 0, none⟩) 0 0) [] := by
  subst hB
  exact ⟨World.ownsRow_lit (base := w0.heap.size) (e := e) (size := 19) w #[] 0 h (by unfold maxLen; omega) (by simp), by simp⟩

theorem LsM.msgs {w0 w : World} {e : TypeId} {a : Option Addr} {n c : Nat} {rs : List Rm} (h : LsM w0 w e (.slice a n c) rs) (hb : Below w0.heap.size w0 w) : rs.length = n ∧ MsgsAt w a c rs := by
  have hn : rs.length = n := by
    rcases h.own.2 with ⟨hv, h0⟩ | ⟨g, cap', cur, hv, _⟩
    · cases hv; exact h0
    · cases hv; rfl
  have ho := h.own
  rw [hn] at ho
  exact ⟨hn, msgs_row ho hn fun r hr => (h.at_ r hr).below hb⟩

/-! ## Arguments -/

section
variable {H : Type} {enc : TypeId × Value → H} {W : World}

/-- The cell of a slice of messages. -/
theorem msgs_cell {t : TypeId} (ht : Tryz.prog.underlying t = some (.slice 40)) {fuel : Nat} {v : Value} {x : DataW H × List MemPlace} (h : DataW.trod enc Tryz.prog W 0 (fun _ => true) true fuel t [v] = some x) :
    ∃ (a : Option Addr) (c : Nat) (rs : List Rm), v = .slice a rs.length c ∧ MsgsAt W a c rs := by
  rcases Go.Deep.open_slice ht h with ⟨hcs, _⟩ | ⟨ad, len, cap, m, n, D, Pl, hcs, _, hl, hm, hmm, _, hel⟩
  · simp at hcs
    exact ⟨none, 0, [], hcs, MsgsAt.nil (Nat.zero_le _)⟩
  · simp at hcs
    have hmc : m = cap := by simpa using hmm
    subst hmc
    have each : ∀ i, i < len → ∃ r : Rm, MsgAt W r ∧ ∀ k u, r.cells[k]? = some u → W.cell? (ad.add (i * 19 + k)) = some u := by
      intro i hi
      obtain ⟨cs, hc, ht⟩ := hel i (by omega)
      rw [c_msg] at hc
      obtain ⟨r, rfl, hr⟩ := msg_cells ht
      obtain ⟨_, _, hcell⟩ := World.cells?_some hc
      refine ⟨r, hr, fun k u hk => ?_⟩
      have hk19 : k < 19 := by
        have := (Array.getElem?_eq_some_iff.1 hk).1
        rwa [cells_size] at this
      have := hcell k hk19
      rw [← Array.getElem?_toList] at hk
      rw [hk, Go.Deep.add_add] at this
      exact this
    obtain ⟨rs, hrs, hE⟩ := pick_gen rm0 len each
    refine ⟨some ad, m, rs, by rw [hrs]; exact hcs, ⟨by omega, hm, fun i hi => ?_, each_of rm0 rs fun i hi => (hE i (by omega)).1⟩⟩
    obtain ⟨b, off, rfl⟩ : ∃ b off, ad = ⟨b, off, none⟩ := addr_of ((hE 0 (by omega)).2 0 _ rfl)
    refine ⟨b, off, rfl, fun k u hk => ?_⟩
    have := (hE i (by omega)).2 k u hk
    rw [Go.WideShapes.add_plain, ← Nat.add_assoc] at this
    exact this

/-- An argument that is a slice of messages. -/
theorem msgs_argT {t : TypeId} (ht : Tryz.prog.underlying t = some (.slice 40)) {a : Option Addr} {len cap : Nat} {d : DataW H} {ps : List MemPlace} (h : DataW.Trod enc Tryz.prog W 0 (fun _ => true) true t (.slice a len cap) d ps) :
    ∃ rs : List Rm, rs.length = len ∧ MsgsAt W a cap rs := by
  obtain ⟨fuel, hf⟩ := h
  obtain ⟨a', c', rs, hv, hr⟩ := msgs_cell ht (v := .slice a len cap) (by simpa [Value.cells] using hf)
  cases hv
  exact ⟨rs, rfl, hr⟩

end

end Go.Proofs.YtggjpjpemgpeeaaGreat

namespace Go.Proofs.YtggjpjpemgpeeaaGreat
open Go.ChangeShapes Go.WideShapes Go.ChangeAt Go.RowKit

/-- What happens to a net. -/
structure A13 where
  what : Int
  a : Int
  b : Int
  r : Rm

def a130 : A13 := ⟨0, 0, 0, rm0⟩

def A13.cells (x : A13) : List Value := .int .i64 x.what :: .int .i64 x.a :: .int .i64 x.b :: x.r.cells.toList

/-- The cells behind the address a hold the acts. -/
structure Acts13 (w : World) (a : Option Addr) (cap : Nat) (es : List A13) : Prop where
  le : es.length ≤ cap
  max : cap ≤ maxLen
  cell : ∀ i, i < es.length → ∃ b off, a = some ⟨b, off, none⟩ ∧ ∀ k v, (es.getD i a130).cells[k]? = some v → w.cell? ⟨b, off + i * 22 + k, none⟩ = some v
  wf : ∀ e ∈ es, I64 e.what ∧ I64 e.a ∧ I64 e.b
  at_ : ∀ e ∈ es, MsgAt w e.r

theorem Acts13.below {w w' : World} {a : Option Addr} {cap : Nat} {es : List A13} (h : Acts13 w a cap es) (hb : Below w.heap.size w w') : Acts13 w' a cap es :=
  ⟨h.le, h.max, fun i hi => by obtain ⟨b, off, e, hc⟩ := h.cell i hi; exact ⟨b, off, e, fun k v hk => cell_later hb (hc k v hk)⟩, h.wf, fun r hr => (h.at_ r hr).below hb⟩

theorem Acts13.nil {w : World} {a : Option Addr} {cap : Nat} (h : cap ≤ maxLen) : Acts13 w a cap [] := ⟨Nat.zero_le _, h, fun i hi => by simp at hi, by simp, by simp⟩

/-- An act's message from its place on. -/
theorem Acts13.box {w : World} {b off cap : Nat} {es : List A13} (h : Acts13 w (some ⟨b, off, none⟩) cap es) (i : Nat) (hi : i < es.length) : BoxO w b (off + i * 22 + 3) (es.getD i a130).r.cells := by
  obtain ⟨b', off', e, hc⟩ := h.cell i hi
  cases e
  intro k v hk
  have := hc (k + 3) v (by
    show (_ :: _ :: _ :: (es.getD i a130).r.cells.toList)[k + 3]? = _
    rw [← hk, ← Array.getElem?_toList]
    rfl)
  rw [show off + i * 22 + 3 + k = off + i * 22 + (k + 3) by omega]
  exact this

/-- t is a struct of three integers and a message. -/
structure ActT (t : TypeId) (f0 f1 f2 f3 : Field) : Prop where
  hu : Tryz.prog.underlying t = some (.struct #[f0, f1, f2, f3])
  t0 : f0.type = 3
  t1 : f1.type = 3
  t2 : f2.type = 3
  t3 : f3.type = 40
  o0 : f0.offset = 0
  o1 : f1.offset = 1
  o2 : f2.offset = 2
  o3 : f3.offset = 3
  ct : Tryz.prog.cellsOf t = 22

section
variable {H : Type} {enc : TypeId × Value → H} {W : World}

set_option maxRecDepth 100000 in
theorem act13_cells {t : TypeId} {f0 f1 f2 f3 : Field} (A : ActT t f0 f1 f2 f3) {fuel : Nat} {cs : List Value} {x : DataW H × List MemPlace} (h : DataW.trod enc Tryz.prog W 0 (fun _ => true) true fuel t cs = some x) :
    ∃ e : A13, cs = e.cells ∧ MsgAt W e.r ∧ I64 e.what ∧ I64 e.a ∧ I64 e.b := by
  obtain ⟨xs, n, _, _, hl, hxl, hf⟩ := DataW.trod_struct A.hu h
  rw [A.ct] at hl
  match xs, hxl, cs, hl with
  | [y0, y1, y2, y3], _, v0 :: v1 :: v2 :: rest, hl =>
    have hr : rest.length = 19 := by simpa using hl
    have g0 := hf 0 f0 rfl
    have g1 := hf 1 f1 rfl
    have g2 := hf 2 f2 rfl
    have g3 := hf 3 f3 rfl
    rw [A.t0, A.o0, c_int] at g0
    rw [A.t1, A.o1, c_int] at g1
    rw [A.t2, A.o2, c_int] at g2
    rw [A.t3, A.o3, c_msg] at g3
    simp only [List.drop_zero, List.take_succ_cons, List.take_zero, List.drop_succ_cons, List.getElem?_cons_zero, List.getElem?_cons_succ] at g0 g1 g2 g3
    rw [List.take_of_length_le (by omega)] at g3
    obtain ⟨z0, e0, _, w0⟩ := DataW.trod_int Tryz.underlying3 g0
    obtain ⟨z1, e1, _, w1⟩ := DataW.trod_int Tryz.underlying3 g1
    obtain ⟨z2, e2, _, w2⟩ := DataW.trod_int Tryz.underlying3 g2
    obtain ⟨r, e3, hm⟩ := msg_cells g3
    simp at e0 e1 e2
    subst e0 e1 e2 e3
    exact ⟨⟨z0, z1, z2, r⟩, rfl, hm, wf_i64 w0, wf_i64 w1, wf_i64 w2⟩

theorem acts13_argT {t tS : TypeId} {f0 f1 f2 f3 : Field} (A : ActT t f0 f1 f2 f3) (hS : Tryz.prog.underlying tS = some (.slice t)) {a : Option Addr} {len cap : Nat} {d : DataW H} {ps : List MemPlace} (h : DataW.Trod enc Tryz.prog W 0 (fun _ => true) true tS (.slice a len cap) d ps) :
    ∃ es : List A13, es.length = len ∧ Acts13 W a cap es := by
  obtain ⟨fuel, hf⟩ := h
  rcases Go.Deep.open_slice hS hf with ⟨hcs, _⟩ | ⟨ad, l, c, m, n, D, Pl, hcs, _, hl, hm, hmm, _, hel⟩
  · simp [Value.cells] at hcs
    obtain ⟨rfl, rfl, rfl⟩ := hcs
    exact ⟨[], rfl, Acts13.nil (Nat.zero_le _)⟩
  · simp [Value.cells] at hcs
    obtain ⟨rfl, rfl, rfl⟩ := hcs
    have hmc : m = cap := by simpa using hmm
    subst hmc
    have each : ∀ i, i < len → ∃ e : A13, (MsgAt W e.r ∧ I64 e.what ∧ I64 e.a ∧ I64 e.b) ∧ ∀ k u, e.cells[k]? = some u → W.cell? (ad.add (i * 22 + k)) = some u := by
      intro i hi
      obtain ⟨cs, hc, ht⟩ := hel i (by omega)
      rw [A.ct] at hc
      obtain ⟨e, rfl, hr⟩ := act13_cells A ht
      obtain ⟨_, _, hcell⟩ := World.cells?_some hc
      refine ⟨e, hr, fun k u hk => ?_⟩
      have hk22 : k < 22 := by
        have := (List.getElem?_eq_some_iff.1 hk).1
        simpa [A13.cells, cells_size] using this
      have := hcell k hk22
      rw [hk, Go.Deep.add_add] at this
      exact this
    obtain ⟨es, hes, hE⟩ := pick_gen a130 len each
    refine ⟨es, hes, ⟨by omega, hm, fun i hi => ?_, each_of a130 es fun i hi => (hE i (by omega)).1.2, each_of a130 es fun i hi => (hE i (by omega)).1.1⟩⟩
    obtain ⟨b, off, rfl⟩ : ∃ b off, ad = ⟨b, off, none⟩ := addr_of ((hE 0 (by omega)).2 0 _ rfl)
    refine ⟨b, off, rfl, fun k u hk => ?_⟩
    have := (hE i (by omega)).2 k u hk
    rw [Go.WideShapes.add_plain, ← Nat.add_assoc] at this
    exact this

end

theorem msgs_arg {H : Type} {enc : TypeId × Value → H} {W : World} {a : Option Addr} {len cap : Nat} {d : DataW H} {ps : List MemPlace} (h : DataW.Trod enc Tryz.prog W 0 (fun _ => true) true 25 (.slice a len cap) d ps) :
    ∃ rs : List Rm, rs.length = len ∧ MsgsAt W a cap rs := msgs_argT Tryz.underlying25 h

theorem actT13 : ∃ f0 f1 f2 f3, ActT 42 f0 f1 f2 f3 :=
  ⟨_, _, _, _, Tryz.underlying42, by kernel_rfl, by kernel_rfl, by kernel_rfl, by kernel_rfl, by kernel_rfl, by kernel_rfl, by kernel_rfl, by kernel_rfl, by kernel_rfl⟩

theorem acts13_arg {H : Type} {enc : TypeId × Value → H} {W : World} {a : Option Addr} {len cap : Nat} {d : DataW H} {ps : List MemPlace} (h : DataW.Trod enc Tryz.prog W 0 (fun _ => true) true 22 (.slice a len cap) d ps) :
    ∃ es : List A13, es.length = len ∧ Acts13 W a cap es := by
  obtain ⟨f0, f1, f2, f3, A⟩ := actT13
  exact acts13_argT A Tryz.underlying22 h

end Go.Proofs.YtggjpjpemgpeeaaGreat
