/-
  Slices of records in memory: read ('RcA'), or of the call's own ('Rcs'); append of records.
-/
import Derived.Test.YtdgpbdedaafdiaaGreatWalksB5
import Derived.Test.YtdgpbdedaafdiaaGreatWalksY7
namespace Go.Proofs.YtdgpbdedaafdiaaGreat
open Go.RowKit

/-- P holds as long as no block from lo up to hi turns. -/
def Rob (lo hi : Nat) (w : World) (P : World → Prop) : Prop := ∀ gs w2, Chg gs w w2 → (∀ g ∈ gs, g < lo ∨ hi ≤ g) → P w2

theorem Rob.now {lo hi : Nat} {w : World} {P : World → Prop} (h : Rob lo hi w P) : P w := h [] w (Chg.refl _ _) (by simp)

theorem Rob.chg {lo hi : Nat} {w w' : World} {P : World → Prop} {gs : List Nat} (h : Rob lo hi w P) (hb : Chg gs w w') (hg : ∀ g ∈ gs, g < lo ∨ hi ≤ g) : Rob lo hi w' P := fun hs w2 hc hh =>
  h (gs ++ hs) w2 ((hb.mono fun g hg => List.mem_append_left _ hg).trans (hc.mono fun g hg => List.mem_append_right _ hg)) fun g hm => by
    rcases List.mem_append.mp hm with hm | hm
    · exact hg g hm
    · exact hh g hm

/-- What held of new memory, whatever the old one does. -/
theorem rob_of {lo : Nat} {w : World} {P : World → Prop} (h : ∀ gs w2, Chg gs w w2 → (∀ g ∈ gs, g < lo) → P w2) : Rob lo w.heap.size w P := fun gs w2 hc hg => by
  refine h (gs.filter (· < w.heap.size)) w2 ⟨hc.os, hc.tape, hc.output, hc.size, fun k hk hn => hc.block k hk fun hm => hn ?_⟩ fun g hm => ?_
  · rw [List.mem_filter]
    exact ⟨hm, by simpa using hk⟩
  · rw [List.mem_filter] at hm
    have h1 : g < w.heap.size := by simpa using hm.2
    rcases hg g hm.1 with h2 | h2
    · exact h2
    · omega

/-- What lies in old memory, whatever is turned behind it. -/
theorem rob_old {w0 w : World} {P : World → Prop} (hP : ∀ w', Below w0.heap.size w0 w' → P w') (hb : Below w0.heap.size w0 w) : Rob 0 w0.heap.size w P := fun gs w2 hc hg =>
  hP w2 (hc.below hb hb.size fun g hm => by rcases hg g hm with h | h; omega; exact h)

/-- A record as it lies in memory. -/
structure Rl where
  r : Pr
  ma : Option Addr
  mc : Nat
  ea : Option Addr
  ec : Nat
  lo : Nat
  hi : Nat

def rl0 : Rl := ⟨pr0, none, 0, none, 0, 0, 0⟩

def rlcells (x : Rl) : List Value := [.int .i64 x.r.kind, .int .i64 x.r.epoch, .slice x.ma x.r.mem.length x.mc, .int .i64 x.r.pos, .int .i64 x.r.last, .slice x.ea x.r.ents.length x.ec]

def rlvals : List Rl → List Value
  | [] => []
  | x :: xs => rlcells x ++ rlvals xs

theorem rlvals_app (xs ys : List Rl) : rlvals (xs ++ ys) = rlvals xs ++ rlvals ys := by
  induction xs with
  | nil => rfl
  | cons x xs ih => simp [rlvals, ih]

theorem rlvals_len : ∀ xs : List Rl, (rlvals xs).length = xs.length * 6
  | [] => rfl
  | x :: xs => by
    show (rlcells x ++ rlvals xs).length = _
    rw [List.length_append, rlvals_len xs, List.length_cons]
    simp [rlcells]
    omega

theorem rlvals_at : ∀ (xs : List Rl) (i k : Nat), i < xs.length → k < 6 → (rlvals xs)[i * 6 + k]? = (rlcells (xs.getD i rl0))[k]?
  | [], i, k, h, _ => by simp at h
  | x :: xs, 0, k, _, hk => by
    show (rlcells x ++ rlvals xs)[0 * 6 + k]? = _
    rw [List.getElem?_append_left (by simp [rlcells]; omega)]
    simp
  | x :: xs, i + 1, k, h, hk => by
    have := rlvals_at xs i k (by simpa using h) hk
    show (rlcells x ++ rlvals xs)[(i + 1) * 6 + k]? = _
    rw [List.getElem?_append_right (by simp [rlcells]; omega), show (i + 1) * 6 + k - (rlcells x).length = i * 6 + k by simp [rlcells]; omega, this]
    simp

theorem rlvals_one : ∀ xs : List Rl, ∀ u ∈ rlvals xs, u.oneCell' = true
  | [], u, h => by simp [rlvals] at h
  | x :: xs, u, h => by
    rcases List.mem_append.mp (show u ∈ rlcells x ++ rlvals xs from h) with h | h
    · simp [rlcells] at h
      rcases h with rfl | rfl | rfl | rfl | rfl | rfl <;> rfl
    · exact rlvals_one xs u h

/-- What is read of a record in memory. -/
def Rl.ok (x : Rl) (w : World) : Prop := RecAt w x.ma x.mc x.ea x.ec x.r

/-- The cells behind the address a hold the records xs. -/
structure RcA (w : World) (a : Option Addr) (cap : Nat) (xs : List Rl) : Prop where
  le : xs.length ≤ cap
  max : cap ≤ maxLen
  el : ∀ i, i < xs.length → ∃ b off, a = some ⟨b, off, none⟩ ∧ ∀ k u, (rlcells (xs.getD i rl0))[k]? = some u → w.cell? ⟨b, off + i * 6 + k, none⟩ = some u
  rob : ∀ x ∈ xs, Rob x.lo x.hi w x.ok

theorem RcA.nil {w : World} {a : Option Addr} {cap : Nat} (h : cap ≤ maxLen) : RcA w a cap [] := ⟨Nat.zero_le _, h, fun i hi => by simp at hi, by simp⟩

theorem RcA.chg {w w' : World} {a : Option Addr} {cap : Nat} {xs : List Rl} {gs : List Nat} (h : RcA w a cap xs) (hb : Chg gs w w') (ha : ∀ g ∈ blk a, g ∉ gs) (hx : ∀ x ∈ xs, ∀ g ∈ gs, g < x.lo ∨ x.hi ≤ g) : RcA w' a cap xs :=
  ⟨h.le, h.max, fun i hi => by
    obtain ⟨b, off, rfl, hc⟩ := h.el i hi
    exact ⟨b, off, rfl, fun k u hk => hb.cell (hc k u hk) (ha b (by simp [blk]))⟩, fun x hx' => (h.rob x hx').chg hb (hx x hx')⟩

theorem RcA.below {w w' : World} {a : Option Addr} {cap : Nat} {xs : List Rl} (h : RcA w a cap xs) (hb : Below w.heap.size w w') : RcA w' a cap xs := h.chg (gs := []) (Chg.of_below hb) (by simp) (by simp)

theorem RcA.take {w : World} {a : Option Addr} {cap : Nat} {xs : List Rl} (h : RcA w a cap xs) (n : Nat) : RcA w a cap (xs.take n) :=
  ⟨by have := h.le; rw [List.length_take]; omega, h.max, fun i hi => by
    have hi' : i < n ∧ i < xs.length := by rw [List.length_take] at hi; omega
    obtain ⟨b, off, e, hc⟩ := h.el i hi'.2
    refine ⟨b, off, e, ?_⟩
    rw [List.getD_eq_getElem?_getD, List.getElem?_take_of_lt hi'.1, ← List.getD_eq_getElem?_getD]
    exact hc, fun x hx => h.rob x (List.mem_of_mem_take hx)⟩

/-- The records from number n on. -/
def fromR (a : Option Addr) (c n : Nat) : Option Addr := if c = n then a else a.map (·.add (n * 6))

theorem blk_fromR (a : Option Addr) (c n : Nat) : blk (fromR a c n) = blk a := by
  unfold fromR
  split
  · rfl
  · rcases a with _ | ⟨b, off, sp⟩
    · rfl
    · show [(Addr.add _ (n * 6)).block] = [b]
      unfold Addr.add
      split <;> rfl

theorem RcA.from {w : World} {a : Option Addr} {cap : Nat} {xs : List Rl} (h : RcA w a cap xs) (n : Nat) (hn : n ≤ xs.length) : RcA w (fromR a cap n) (cap - n) (xs.drop n) :=
  ⟨by have := h.le; rw [List.length_drop]; omega, by have := h.max; omega, fun i hi => by
    rw [List.length_drop] at hi
    have hl := h.le
    obtain ⟨b, off, rfl, hc⟩ := h.el (n + i) (by omega)
    refine ⟨b, off + n * 6, ?_, fun k u hk => ?_⟩
    · unfold fromR
      rw [if_neg (by omega)]
      simp [Go.WideShapes.add_plain]
    · rw [show off + n * 6 + i * 6 + k = off + (n + i) * 6 + k by omega]
      refine hc k u ?_
      rw [List.getD_eq_getElem?_getD, List.getElem?_drop, ← List.getD_eq_getElem?_getD] at hk
      exact hk, fun x hx => h.rob x (List.mem_of_mem_drop hx)⟩

/-- A slice of records of the call's own (or nil). -/
structure Rcs (w : World) (base : Nat) (va : Option Addr) (vc : Nat) (xs : List Rl) : Prop where
  own : w.ownsRow base 35 6 (.slice va xs.length vc) xs.length (rlvals xs)
  rob : ∀ x ∈ xs, Rob x.lo x.hi w x.ok
  off : ∀ x ∈ xs, x.hi ≤ w.heap.size ∧ ∀ g ∈ blk va, g < x.lo ∨ x.hi ≤ g

theorem rcs_nil (w : World) (base : Nat) : Rcs w base none 0 [] := ⟨World.ownsRow_nil _ _ _ _, by simp, by simp⟩

theorem Rcs.cases {w : World} {base cap : Nat} {va : Option Addr} {xs : List Rl} (h : Rcs w base va cap xs) : (va = none ∧ xs = [] ∧ cap = 0) ∨ ∃ g, va = some ⟨g, 0, none⟩ := by
  rcases h.own.2 with ⟨e, h0⟩ | ⟨g, c, cur, e, hb, rest⟩
  · left
    injection e with e1 e2 e3
    exact ⟨e1, List.eq_nil_of_length_eq_zero h0, e3⟩
  · right
    injection e with e1 e2 e3
    exact ⟨g, e1⟩

theorem Rcs.lt {w : World} {base cap g : Nat} {va : Option Addr} {xs : List Rl} (h : Rcs w base va cap xs) (hg : g ∈ blk va) : base ≤ g ∧ g < w.heap.size := by
  rcases h.cases with ⟨rfl, _, _⟩ | ⟨g', rfl⟩
  · simp [blk] at hg
  · simp [blk] at hg
    subst hg
    exact World.ownsRow.lt h.own g rfl

theorem Rcs.chg {w w' : World} {base cap : Nat} {va : Option Addr} {xs : List Rl} {gs : List Nat} (h : Rcs w base va cap xs) (hb : Chg gs w w') (hg : ∀ g ∈ blk va, g ∉ gs) (hx : ∀ x ∈ xs, ∀ g ∈ gs, g < x.lo ∨ x.hi ≤ g) : Rcs w' base va cap xs :=
  ⟨hb.owns h.own (fun g e => hg g (by rcases va with _ | ad <;> simp [Value.ownBlock, blk] at e ⊢; exact e.symm)), fun x hx' => (h.rob x hx').chg hb (hx x hx'), fun x hx' => ⟨Nat.le_trans (h.off x hx').1 hb.size, (h.off x hx').2⟩⟩

theorem Rcs.below {w w' : World} {base cap : Nat} {va : Option Addr} {xs : List Rl} (h : Rcs w base va cap xs) (hb : Below w.heap.size w w') : Rcs w' base va cap xs := h.chg (gs := []) (Chg.of_below hb) (by simp) (by simp)

theorem Rcs.at_ {w : World} {base cap : Nat} {va : Option Addr} {xs : List Rl} (h : Rcs w base va cap xs) : RcA w va cap xs := by
  rcases h.own.2 with ⟨e, h0⟩ | ⟨g, c, cur, e, hb, hg, hnc, hcm, _⟩
  · obtain rfl := List.eq_nil_of_length_eq_zero h0
    injection e with e1 e2 e3
    exact RcA.nil (by omega)
  · injection e with e1 e2 e3
    subst e1 e3
    refine ⟨hnc, hcm, fun i hi => ⟨g, 0, rfl, fun k u hk => ?_⟩, h.rob⟩
    have hk6 : k < 6 := by
      rcases Nat.lt_or_ge k 6 with hlt | hge
      · exact hlt
      · rw [List.getElem?_eq_none (by simp [rlcells]; omega)] at hk; cases hk
    rw [Nat.zero_add, World.ownsRow.cellAt h.own (i * 6 + k) (by omega), rlvals_at xs i k hi hk6]
    exact hk

theorem infoRec : (Tryz.prog.info? 35).map (fun i => (i.zero, i.size, i.bytes)) = some (some (.agg #[.int .i64 0, .int .i64 0, .slice none 0 0, .int .i64 0, .int .i64 0, .slice none 0 0]), 6, 80) := by kernel_rfl

theorem rcs_lit (w : World) (base B : Nat) (hB : w.heap.size = B) (hb : base ≤ w.heap.size) : Rcs (w.alloc (.cells #[] 35)) base (some ⟨B, 0, none⟩) 0 [] := by
  subst hB
  exact ⟨World.ownsRow_lit (base := base) (e := 35) (size := 6) w #[] 0 hb (by unfold maxLen; omega) rfl, by simp, by simp⟩

/-- append(list, more...) as one operation. -/
theorem wp_appRec {o : Oper} {a : Act} {K : Act → World → Prop} {Q : Exit → Act → World → Prop} {w : World} (s x : Operand)
    (ho : o.op = .call { callee := .builtin .append, args := #[s, x], argTypes := #[61, 61] })
    (base : Nat) (va : Option Addr) (vc n : Nat) (xs : List Rl) (hn : xs.length = n) (hs : a.eval s = .slice va n vc) (hown : Rcs w base va vc xs)
    (xa : Option Addr) (m xc : Nat) (ys : List Rl) (hm : ys.length = m) (hx : a.eval x = .slice xa m xc) (hq : RcA w xa xc ys) (hb : n + m ≤ 1000000) (hbase : base ≤ w.heap.size)
    (hy : ∀ y ∈ ys, y.hi ≤ w.heap.size ∧ ∀ g ∈ blk va, g < y.lo ∨ y.hi ≤ g)
    (h : ∀ va' vc' w', Rcs w' base va' vc' (xs ++ ys) → Chg (blk va) w w' → (∀ g ∈ blk va', g ∈ blk va ∨ w.heap.size ≤ g) → K (a.put o.dst (.slice va' (n + m) vc')) w') :
    Oper.wp Tryz.prog o a w K Q := by
  obtain ⟨i, hi, hz, hsz, hby⟩ := info_parts infoRec
  subst hn hm
  by_cases h0 : ys = []
  · subst h0
    have hfin := h va vc w (by rw [List.append_nil]; exact hown) (Chg.refl _ _) (fun g hg => .inl hg)
    have hc : xs.length ≤ vc := hown.at_.le
    have hrun : (Builtin.append_ #[61, 61] o.type #[.slice va xs.length vc, .slice xa 0 xc]).run Tryz.prog w = .ok (.slice va xs.length vc) w := by
      rcases hown.cases with ⟨rfl, rfl, rfl⟩ | ⟨g, rfl⟩
      · rcases xa with _ | ad
        · simp [Builtin.append_, run_underlying Tryz.underlying61, sizeOf, typeInfo, hi, Builtin.lenOf, Builtin.firstCells]
        · simp [Builtin.append_, run_underlying Tryz.underlying61, sizeOf, typeInfo, hi, Builtin.lenOf, Builtin.firstCells, loadCells, loadCellsFrom]
      · rcases xa with _ | ad
        · simp [Builtin.append_, run_underlying Tryz.underlying61, sizeOf, typeInfo, hi, Builtin.lenOf, Builtin.firstCells, hc, storeCells]
        · simp [Builtin.append_, run_underlying Tryz.underlying61, sizeOf, typeInfo, hi, Builtin.lenOf, Builtin.firstCells, hc, storeCells, loadCells, loadCellsFrom]
    have hx2 : a.eval x = .slice xa 0 xc := hx
    unfold Oper.wp
    simp [execOp, ho, resolve, invoke, builtin, hs, hx2, hrun, Result.andThen]
    exact hfin
  · have hpos : 0 < ys.length := by cases ys with | nil => exact absurd rfl h0 | cons c q => simp
    obtain ⟨b, off, rfl, _⟩ := hq.el 0 hpos
    refine wp_append_lies w s x 61 ho base 35 i _ 6 80 Tryz.underlying61 hi hz hsz hby rfl (by omega) _ _ _ hs hown.own ⟨b, off, none⟩ ys.length xc (rlvals ys) hx (by rw [rlvals_len])
      (fun j u hj => ?_) (rlvals_one ys) hpos (by unfold maxLen; omega) (by omega) hbase w.heap.size rfl ?_
    · have hl : j < ys.length * 6 := by
        rcases Nat.lt_or_ge j (ys.length * 6) with hlt | hge
        · exact hlt
        · rw [List.getElem?_eq_none (by rw [rlvals_len]; exact hge)] at hj; cases hj
      rw [show j = j / 6 * 6 + j % 6 by omega, rlvals_at ys (j / 6) (j % 6) (by omega) (by omega)] at hj
      obtain ⟨b', off', e, hc⟩ := hq.el (j / 6) (by omega)
      cases e
      have := hc _ _ hj
      rw [show off + j / 6 * 6 + j % 6 = off + j by omega] at this
      rw [Go.WideShapes.add_plain]
      exact this
    · intro g' cap' w' hown' hg hat hlt
      have hat' : g' ∈ blk va ∨ w.heap.size ≤ g' := by
        rcases hat with hat | hat
        · left
          rcases va with _ | ad
          · simp [Value.ownBlock] at hat
          · simpa [Value.ownBlock, blk] using hat.symm
        · right; omega
      have hchg : Chg (blk va) w w' := by
        rcases va with _ | ad
        · exact Chg.of_new hg
        · exact Chg.of_grown hg
      have each : ∀ z : Rl, Rob z.lo z.hi w z.ok → (z.hi ≤ w.heap.size ∧ ∀ g ∈ blk va, g < z.lo ∨ z.hi ≤ g) → Rob z.lo z.hi w' z.ok ∧ z.hi ≤ w'.heap.size ∧ ∀ g ∈ blk (some ⟨g', 0, none⟩ : Option Addr), g < z.lo ∨ z.hi ≤ g := by
        intro z hz1 hz2
        refine ⟨hz1.chg hchg hz2.2, Nat.le_trans hz2.1 hchg.size, fun g hg' => ?_⟩
        simp [blk] at hg'
        subst hg'
        rcases hat' with h1 | h1
        · exact hz2.2 g h1
        · right; omega
      have all : ∀ z ∈ xs ++ ys, Rob z.lo z.hi w' z.ok ∧ z.hi ≤ w'.heap.size ∧ ∀ g ∈ blk (some ⟨g', 0, none⟩ : Option Addr), g < z.lo ∨ z.hi ≤ g := by
        intro z hz'
        rcases List.mem_append.mp hz' with hz' | hz'
        · exact each z (hown.rob z hz') (hown.off z hz')
        · exact each z (hq.rob z hz') (hy z hz')
      refine h (some ⟨g', 0, none⟩) cap' w' ⟨?_, fun z hz' => (all z hz').1, fun z hz' => (all z hz').2⟩ hchg (fun g hg' => ?_)
      · rw [rlvals_app, List.length_append]
        exact hown'
      · simp [blk] at hg'
        subst hg'
        exact hat'

/-- append(list, more...). -/
theorem wpList_appRec {ops : Array Oper} {rest : List Oper} {o : Oper} {a : Act} {Q : Exit → Act → World → Prop} {w : World} (hgd : o.guard = none) (s x : Operand)
    (ho : o.op = .call { callee := .builtin .append, args := #[s, x], argTypes := #[61, 61] })
    (base : Nat) (va : Option Addr) (vc n : Nat) (xs : List Rl) (hn : xs.length = n) (hs : a.eval s = .slice va n vc) (hown : Rcs w base va vc xs)
    (xa : Option Addr) (m xc : Nat) (ys : List Rl) (hm : ys.length = m) (hx : a.eval x = .slice xa m xc) (hq : RcA w xa xc ys) (hb : n + m ≤ 1000000) (hbase : base ≤ w.heap.size)
    (hy : ∀ y ∈ ys, y.hi ≤ w.heap.size ∧ ∀ g ∈ blk va, g < y.lo ∨ y.hi ≤ g)
    (h : ∀ va' vc' w', Rcs w' base va' vc' (xs ++ ys) → Chg (blk va) w w' → (∀ g ∈ blk va', g ∈ blk va ∨ w.heap.size ≤ g) → wpList Tryz.prog ops Q rest (a.put o.dst (.slice va' (n + m) vc')) w') :
    wpList Tryz.prog ops Q (o :: rest) a w :=
  wpList_plain hgd fun _ hK => wp_appRec s x ho base va vc n xs hn hs hown xa m xc ys hm hx hq hb hbase hy fun va' vc' w' h1 h2 h3 => hK _ _ (h va' vc' w' h1 h2 h3)

/-- A record laid in a block of its own. -/
theorem rca_one {w : World} (x : Rl) (B : Nat) (hB : w.heap.size = B) (h : Rob x.lo x.hi w x.ok) : RcA (w.alloc (.cells (rlcells x).toArray 35)) (some ⟨B, 0, none⟩) 1 [x] := by
  subst hB
  refine ⟨Nat.le_refl _, by unfold maxLen; omega, fun i hi => ⟨w.heap.size, 0, rfl, fun k u hk => ?_⟩, fun y hy => ?_⟩
  · have hi' : i < 1 := hi
    obtain rfl : i = 0 := by omega
    rw [show 0 + 0 * 6 + k = k by omega, World.cell?_alloc_mark, ← Array.getElem?_toList]
    exact hk
  · rw [List.mem_singleton.mp hy]
    exact h.chg (gs := []) (Chg.of_below (below_one _ _)) (by simp)

theorem rca_box {w : World} (r : Pr) (ma ea : Option Addr) (mc ec lo hi lm le B : Nat) (hlm : r.mem.length = lm) (hle : r.ents.length = le) (hB : w.heap.size = B) (h : Rob lo hi w (Rl.ok ⟨r, ma, mc, ea, ec, lo, hi⟩)) :
    RcA (w.alloc (.cells #[.int .i64 r.kind, .int .i64 r.epoch, .slice ma lm mc, .int .i64 r.pos, .int .i64 r.last, .slice ea le ec] 35)) (some ⟨B, 0, none⟩) 1 [⟨r, ma, mc, ea, ec, lo, hi⟩] := by
  subst hlm hle
  exact rca_one ⟨r, ma, mc, ea, ec, lo, hi⟩ B hB h

end Go.Proofs.YtdgpbdedaafdiaaGreat
