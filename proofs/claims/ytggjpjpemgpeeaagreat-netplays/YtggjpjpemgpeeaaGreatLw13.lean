/-
  A map whose keys are pairs of integers (a struct of two), that the call itself has made, as a set. The types are parameters. (For stage 13: map[link]bool.)
  The law's own list of messages beside a network.
  The law NetPlays: its links, its map of them, its state; loads of structs of any size.
-/
import Derived.Test.YtggjpjpemgpeeaaGreatMem
import Derived.Maps.OwnOps
import Derived.Maps.Views
import Derived.DeepKeys5
import Derived.Test.YtggjpjpemgpeeaaGreatNt13
import Derived.Test.YtggjpjpemgpeeaaGreatMsgs
import Derived.Test.YtggjpjpemgpeeaaGreatWalksH5
namespace Go.Proofs.YtggjpjpemgpeeaaGreat
open Go.RowKit Go.Maps

/-- The value of a pair. -/
def pv (p : Int × Int) : Value := .agg #[.int .i64 p.1, .int .i64 p.2]

theorem pv_inj {p q : Int × Int} (h : pv p = pv q) : p = q := by
  unfold pv at h
  injection h with h
  simp at h
  exact Prod.ext h.1 h.2

/-- t is a struct of two integers. -/
structure PairT (t ti : TypeId) (f0 f1 : Field) : Prop where
  hu : Tryz.prog.underlying t = some (.struct #[f0, f1])
  hi : Tryz.prog.underlying ti = some (.int .i64)
  t0 : f0.type = ti
  t1 : f1.type = ti
  o0 : f0.offset = 0
  o1 : f1.offset = 1
  n0 : (f0.name != "_") = true
  n1 : (f1.name != "_") = true
  ct : Tryz.prog.cellsOf t = 2
  ci : Tryz.prog.cellsOf ti = 1
  kt : Tryz.prog.keyType t = true
  row : t < Tryz.prog.types.size
  small : Tryz.prog.types.size + 2 ≤ 10000

theorem PairT.keyed {t ti : TypeId} {f0 f1 : Field} (A : PairT t ti f0 f1) : Keyed Tryz.prog t :=
  Keyed.of_law (deep_law_gate (by kernel_rfl) A.small A.row A.kt (by rw [A.hu]))

theorem pos_succ {t n : Nat} (h : t < n) : ∃ m, n = m + 1 := ⟨n - 1, by omega⟩

theorem PairT.key {t ti : TypeId} {f0 f1 : Field} (A : PairT t ti f0 f1) (p : Int × Int) (h1 : (Lit.int .i64 p.1).wf = true) (h2 : (Lit.int .i64 p.2).wf = true) : keyOf Tryz.prog t (pv p) = some (.string (keyBytes [.int .i64 p.1, .int .i64 p.2])) := by
  obtain ⟨m, hm⟩ : ∃ m, Tryz.prog.types.size = m + 1 := pos_succ A.row
  unfold keyOf pv
  simp only [A.hu]
  rw [if_pos (by simp [A.kt, Value.formed, A.hu, A.ct]), hm]
  unfold Program.keyLits
  simp only [A.hu, Value.cells]
  rw [if_pos (by rw [A.ct]; refine ⟨rfl, ?_⟩; simp [A.n0, A.n1])]
  simp only [List.mapM_cons, List.mapM_nil, A.t0, A.t1, A.o0, A.o1, A.ci]
  obtain ⟨m', hm'⟩ : ∃ m', m + 1 = m' + 1 := ⟨m, rfl⟩
  simp [Program.keyLits, A.hi, h1, h2]

theorem srcPair : ∃ f0 f1, PairT 72 3 f0 f1 :=
  ⟨_, _, Tryz.underlying72, Tryz.underlying3, by kernel_rfl, by kernel_rfl, by kernel_rfl, by kernel_rfl, by kernel_rfl, by kernel_rfl, by kernel_rfl, by kernel_rfl, by kernel_rfl, of_decide_eq_true (by kernel_rfl), of_decide_eq_true (by kernel_rfl)⟩

/-- Block b is a map of at most n entries; asked for the pair p it answers S p. -/
def SetL (t : TypeId) (w : World) (b n : Nat) (S : Int × Int → Bool) : Prop :=
  ∃ D : DataW Unit, IsMap D ∧ w.ownsMap Tryz.prog t (plainElem Tryz.prog 4) b n D ∧ ∀ p l, keyOf Tryz.prog t (pv p) = some l → D.atKey l (.lit (.bool false)) = .lit (.bool (S p))

theorem setL_made (t : TypeId) (w : World) : SetL t (w.alloc (.map #[] 0)) w.heap.size 0 (fun _ => false) :=
  ⟨.map [], ⟨[], rfl⟩, World.ownsMap_made w _ _ _, fun _ _ _ => rfl⟩

theorem SetL.lt {t : TypeId} {w : World} {b n : Nat} {S : Int × Int → Bool} (h : SetL t w b n S) : b < w.heap.size := by obtain ⟨D, _, hD, _⟩ := h; exact hD.lt

theorem SetL.chg {t : TypeId} {gs : List Nat} {w w' : World} {b n : Nat} {S : Int × Int → Bool} (h : SetL t w b n S) (hb : Chg gs w w') (hn : b ∉ gs) : SetL t w' b n S := by
  have hlt := h.lt
  obtain ⟨D, hm, ⟨es, clock, hg, F, hs, hD⟩, hk⟩ := h
  exact ⟨D, hm, ⟨es, clock, (hb.block b hlt hn).trans hg, F, hs, hD⟩, hk⟩

theorem zeroBoolL (w : World) : (zeroValue 4).run Tryz.prog w = .ok (.bool false) w := by kernel_rfl

set_option maxRecDepth 100000 in
theorem setL_look {t tm : TypeId} {w : World} (K : Keyed Tryz.prog t) (htm : Tryz.prog.underlying tm = some (.map t 4)) (b n : Nat) (S : Int × Int → Bool) (hown : SetL t w b n S) (p : Int × Int) {l : Lit} (hl : keyOf Tryz.prog t (pv p) = some l) :
    (Instr.lookup tm (.map (some b)) (pv p) false).run Tryz.prog w = .ok (.bool (S p)) w := by
  obtain ⟨D, _, hD, hS⟩ := hown
  obtain ⟨v, ps, hrun, hv⟩ := hD.lookup K htm (zeroBoolL w) (plainElem_bool Tryz.underlying4 false) hl
  rw [hS p l hl] at hv
  have e : v = .bool (S p) := by
    unfold plainElem at hv
    rw [Tryz.underlying4] at hv
    cases v <;> simp at hv
    rw [hv.1]
  subst e
  exact hrun

set_option maxRecDepth 100000 in
/-- m[k]. -/
theorem wpList_setLookL {ops : Array Oper} {rest : List Oper} {o : Oper} {a : Act} {Q : Exit → Act → World → Prop} {w : World} {t tm : TypeId} (K : Keyed Tryz.prog t) (htm : Tryz.prog.underlying tm = some (.map t 4)) (hgd : o.guard = none) (m x : Operand)
    (ho : o.op = Op.lookup tm m x false) (b n : Nat) (S : Int × Int → Bool) (hm : a.eval m = .map (some b)) (hown : SetL t w b n S) (p : Int × Int) {l : Lit} (hl : keyOf Tryz.prog t (pv p) = some l) (hx : a.eval x = pv p)
    (h : wpList Tryz.prog ops Q rest (a.put o.dst (.bool (S p))) w) : wpList Tryz.prog ops Q (o :: rest) a w := by
  have hrun := setL_look K htm b n S hown p hl
  refine wpList_plain hgd fun K' hK' => ?_
  unfold Oper.wp
  simp [execOp, ho, hm, hx, hrun, Result.andThen]
  exact hK' _ _ h

set_option maxRecDepth 100000 in
/-- m[k] = c. -/
theorem wpList_setPutL {ops : Array Oper} {rest : List Oper} {o : Oper} {a : Act} {Q : Exit → Act → World → Prop} {w : World} {t tm : TypeId} (K : Keyed Tryz.prog t) (htm : Tryz.prog.underlying tm = some (.map t 4)) (hgd : o.guard = none) (m x v : Operand)
    (ho : o.op = Op.mapUpdate tm m x v) (b n : Nat) (S : Int × Int → Bool) (hm : a.eval m = .map (some b)) (hown : SetL t w b n S) (p : Int × Int) {l : Lit} (hl : keyOf Tryz.prog t (pv p) = some l) (hx : a.eval x = pv p) (c : Bool) (hv : a.eval v = .bool c) (hn : n < 1000000000)
    (h : ∀ w', SetL t w' b (n + 1) (fun q => if q = p then c else S q) → Chg [b] w w' → wpList Tryz.prog ops Q rest (a.put o.dst undef) w') : wpList Tryz.prog ops Q (o :: rest) a w := by
  obtain ⟨D, hDm, hD, hS⟩ := hown
  refine wpList_mapUpdate_own w hgd m x v tm ho t 4 K htm _ b n D hm hD (by unfold maxLen; omega) _ _ l hx hv hl _ _ (plainElem_bool Tryz.underlying4 c) ?_
  intro w' hD' hg
  refine h w' ⟨_, ?_, hD', fun q lq hq => ?_⟩ (Chg.of_grown hg)
  · obtain ⟨es, rfl⟩ := hDm
    exact ⟨_, rfl⟩
  · show _ = DataW.lit (.bool (if q = p then c else S q))
    by_cases e : q = p
    · subst e
      rw [if_pos rfl]
      have e2 : lq = l := by rw [hl] at hq; exact (Option.some.inj hq).symm
      subst e2
      exact atKey_put_same hDm (K.key hl) _ _
    · rw [if_neg e, atKey_put_other (by intro h'; subst h'; exact e (pv_inj (K.inj hq hl)))]
      exact hS q lq hq

end Go.Proofs.YtggjpjpemgpeeaaGreat

namespace Go.Proofs.YtggjpjpemgpeeaaGreat
open Go.RowKit

/-- A slice of messages of the call's own (or nil), none of a network's blocks. -/
structure LsN (w0 w : World) (v : Value) (ss : List Rm) (N : List Nat) : Prop where
  ls : LsM w0 w 40 v ss
  off : ∀ g, v.ownBlock = some g → g ∉ N

section
variable {w0 w w' : World} {R : Nat} {N N' : List Nat} {ms : List Pm} {ks : List (Int × Int)} {v : Value} {ss : List Rm}

theorem LsN.mv (h : LsN w0 w v ss N) (hM : Mv w w' N N') : LsN w0 w' v ss N' := ⟨h.ls.chg hM.chg h.off, fun g hg => off_mv (h.off g hg) (h.ls.lt g hg).2 hM⟩

theorem LsN.below (h : LsN w0 w v ss N) (hb : Below w.heap.size w w') : LsN w0 w' v ss N := ⟨h.ls.below hb, h.off⟩

theorem NS.chg {gs : List Nat} (h : NS w0 w R N ms ks) (hb : Chg gs w w') (hn : ∀ g ∈ N, g ∉ gs) (hl : ∀ g ∈ gs, w0.heap.size ≤ g) : NS w0 w' R N ms ks := ⟨hb.below h.bel h.bel.size hl, h.nt.chg hb hn⟩

/-- A list made just now. -/
theorem LsN.lit (h : NS w0 w R N ms ks) (B : Nat) (hB : w.heap.size = B) : LsN w0 (w.alloc (.cells #[] 40)) (.slice (some ⟨B, 0, none⟩) 0 0) [] N :=
  ⟨lsM_lit w0 w _ B hB h.bel.size, fun g hg e => by simp [Value.ownBlock] at hg; have := (h.nt.nLt g e).2; omega⟩

theorem own_chg {v : Value} (h : w.grownBy w' v.ownBlock) : Chg v.ownBlock.toList w w' := by
  cases e : v.ownBlock with
  | none => rw [e] at h; exact Chg.of_new h
  | some g => rw [e] at h; exact Chg.of_grown h

end

/-- append(list, y), y laid in a block of its own. -/
theorem wpList_pushM {ops : Array Oper} {rest : List Oper} {o : Oper} {a : Act} {Q : Exit → Act → World → Prop} {w : World} (hgd : o.guard = none) (s x : Operand)
    (ho : o.op = .call { callee := .builtin .append, args := #[s, x], argTypes := #[25, 25] }) {w0 : World} {R : Nat} {N : List Nat} {ms : List Pm} {ks : List (Int × Int)} {ss : List Rm} (va : Option Addr) (n c : Nat)
    (hs : a.eval s = .slice va n c) (H : NS w0 w R N ms ks) (L : LsN w0 w (.slice va n c) ss N) (hn : ss.length = n) (r : Rm) (hr : MsgAt w0 r) (B xc : Nat) (hx : a.eval x = .slice (some ⟨B, 0, none⟩) 1 xc) (hb : Box w B r.cells) (hn' : n ≤ 1000)
    (h : ∀ g' cap' w', NS w0 w' R N ms ks → LsN w0 w' (.slice (some ⟨g', 0, none⟩) (n + 1) cap') (ss ++ [r]) N → Chg (Value.ownBlock (.slice va n c)).toList w w' → (Value.ownBlock (.slice va n c) = some g' ∨ w.heap.size ≤ g') → wpList Tryz.prog ops Q rest (a.put o.dst (.slice (some ⟨g', 0, none⟩) (n + 1) cap')) w') :
    wpList Tryz.prog ops Q (o :: rest) a w := by
  obtain ⟨i, hi, hz, hsz, hby⟩ := info_parts infoM
  have ho' := L.ls.own
  rw [hn] at ho'
  have hcl : r.cells.toList.length = 19 := cells_len r
  refine wpList_append_lies w hgd s x 25 ho w0.heap.size 40 i _ 19 256 Tryz.underlying25 hi hz hsz hby (by show rm0.cells.size = 19; rfl) (by omega) _ n _ hs ho' ⟨B, 0, none⟩ 1 xc r.cells.toList hx (by omega)
    (fun j u hj => by rw [Go.WideShapes.add_plain, Nat.zero_add]; rw [Array.getElem?_toList] at hj; exact hb j u hj) (cells_ones r) (by omega) (by unfold maxLen; omega) (by omega) H.bel.size w.heap.size rfl ?_
  intro g' cap' w' hown' hg hat _
  have hch := own_chg hg
  have hoff : ∀ g ∈ N, g ∉ (Value.ownBlock (.slice va n c)).toList := fun g hgN hm => by
    rw [Option.mem_toList] at hm
    exact L.off g hm hgN
  have hH := H.chg hch hoff fun g hm => by rw [Option.mem_toList] at hm; exact (L.ls.lt g hm).1
  have hat' : Value.ownBlock (.slice va n c) = some g' ∨ w.heap.size ≤ g' := hat.imp id fun e => by omega
  refine h g' cap' w' hH ⟨⟨?_, fun q hq => ?_⟩, fun g hg' e => ?_⟩ hch hat'
  · rw [mvals_snoc, List.length_append, hn]
    exact hown'
  · rcases List.mem_append.mp hq with hq | hq
    · exact L.ls.at_ q hq
    · rw [List.mem_singleton.mp hq]; exact hr
  · simp [Value.ownBlock] at hg'
    subst hg'
    rcases hat' with h1 | h1
    · exact L.off _ h1 e
    · have := (H.nt.nLt _ e).2; omega

end Go.Proofs.YtggjpjpemgpeeaaGreat

namespace Go.Proofs.YtggjpjpemgpeeaaGreat
open Go.RowKit Go.Maps

theorem linkPair : ∃ f0 f1, PairT 48 3 f0 f1 :=
  ⟨_, _, Tryz.underlying48, Tryz.underlying3, by kernel_rfl, by kernel_rfl, by kernel_rfl, by kernel_rfl, by kernel_rfl, by kernel_rfl, by kernel_rfl, by kernel_rfl, by kernel_rfl, of_decide_eq_true (by kernel_rfl), of_decide_eq_true (by kernel_rfl)⟩

theorem link_keyed : Keyed Tryz.prog 48 := by
  obtain ⟨f0, f1, A⟩ := linkPair
  exact A.keyed

theorem link_key (p : Int × Int) (h : BigP p) : keyOf Tryz.prog 48 (pv p) = some (.string (keyBytes [.int .i64 p.1, .int .i64 p.2])) := by
  obtain ⟨f0, f1, A⟩ := linkPair
  exact A.key p (i64_wf h.1) (i64_wf h.2)

theorem lof_any (a b : Int) (w : World) : Calls Tryz.prog 9 #[.int .i64 a, .int .i64 b] w fun e w' => e = .returned (pv (lkP a b)) ∧ Below w.heap.size w w' := by
  have HB := Lib.hid (fun v : Value => fun u : Value => below_one w (.cells #[v, u] 48))
  by_cases h : b < a
  · have e : pv (lkP a b) = .agg #[.int .i64 b, .int .i64 a] := by unfold pv lkP; simp only; rw [Int.min_eq_right (by omega), Int.max_eq_left (by omega)]
    rw [e]
    clear e
    have d1 : decide (b < a) = true := by simpa using h
    go_enter Tryz.func9, Tryz.ntmps9
    go_wp2
    refine bodyPost_ret (v := .agg #[.int .i64 b, .int .i64 a]) (by simp [results, Tryz.results9, go_sem]) rfl ?_
    exact ⟨rfl, HB.out _ _⟩
  · have e : pv (lkP a b) = .agg #[.int .i64 a, .int .i64 b] := by unfold pv lkP; simp only; rw [Int.min_eq_left (by omega), Int.max_eq_right (by omega)]
    rw [e]
    clear e
    have d1 : decide (b < a) = false := by simpa using h
    go_enter Tryz.func9, Tryz.ntmps9
    go_wp2
    refine bodyPost_ret (v := .agg #[.int .i64 a, .int .i64 b]) (by simp [results, Tryz.results9, go_sem]) rfl ?_
    exact ⟨rfl, HB.out _ _⟩

theorem may_any (a b : Int) (w : World) : Calls Tryz.prog 13 #[.int .i64 a, .int .i64 b] w fun e w' => e = .returned (.bool (lkd a b)) ∧ w = w' := by
  have HV : Hid (∀ v : Bool, ((v = true ↔ (-5 ≤ a ∧ a < 16 ∧ -5 ≤ b ∧ b < 16 ∧ a ≠ b)) → v = lkd a b)) := by
    intro v hv
    have : lkd a b = true ↔ (-5 ≤ a ∧ a < 16 ∧ -5 ≤ b ∧ b < 16 ∧ a ≠ b) := by
      unfold lkd win2
      simp only [Bool.and_eq_true, decide_eq_true_eq]
      omega
    rw [Bool.eq_iff_iff, hv, this]
  by_cases h1 : -5 ≤ a
  · have u1 : decide (-5 ≤ a) = true := by simpa using h1
    by_cases h2 : a < 16
    · have u2 : decide (a < 16) = true := by simpa using h2
      by_cases h3 : -5 ≤ b
      · have u3 : decide (-5 ≤ b) = true := by simpa using h3
        by_cases h4 : b < 16
        · have u4 : decide (b < 16) = true := by simpa using h4
          go_enter Tryz.func13, Tryz.ntmps13
          go_wp2
          go_ret
          exact ⟨by rw [← HV.out (a != b) (by simp; omega)]; rfl, rfl⟩
        · have u4 : decide (b < 16) = false := by simpa using h4
          go_enter Tryz.func13, Tryz.ntmps13
          go_wp2
          go_ret
          exact ⟨by rw [← HV.out false (by simp; omega)]; rfl, rfl⟩
      · have u3 : decide (-5 ≤ b) = false := by simpa using h3
        go_enter Tryz.func13, Tryz.ntmps13
        go_wp2
        go_ret
        exact ⟨by rw [← HV.out false (by simp; omega)]; rfl, rfl⟩
    · have u2 : decide (a < 16) = false := by simpa using h2
      go_enter Tryz.func13, Tryz.ntmps13
      go_wp2
      go_ret
      exact ⟨by rw [← HV.out false (by simp; omega)]; rfl, rfl⟩
  · have u1 : decide (-5 ≤ a) = false := by simpa using h1
    go_enter Tryz.func13, Tryz.ntmps13
    go_wp2
    go_ret
    exact ⟨by rw [← HV.out false (by simp; omega)]; rfl, rfl⟩

/-- A struct is loaded, as one operation. -/
theorem wpList_ldX {ops : Array Oper} {rest : List Oper} {o : Oper} {a : Act} {Q : Exit → Act → World → Prop} {w : World} (t : TypeId) (n : Nat) (s : Operand) (B off : Nat) (C : Array Value) (hgd : o.guard = none) (ho : o.op = .load t s)
    (hs : a.eval s = .pointer (some ⟨B, off, none⟩)) (hsz : (sizeOf t).run Tryz.prog w = .ok n w) (hag : (isAgg t).run Tryz.prog w = .ok true w) (hn : C.size = n) (hb : BoxO w B off C) (h : wpList Tryz.prog ops Q rest (a.put o.dst (.agg C)) w) : wpList Tryz.prog ops Q (o :: rest) a w := by
  have hrun := run_ld (W := w) t n B off C hsz hag hn hb
  refine wpList_plain hgd fun K hK => ?_
  unfold Oper.wp
  simp [execOp, ho, hs, hrun, Result.andThen]
  exact hK _ _ h

/-- The law's state: a network, a list of messages, a map of links. -/
structure PS (w0 w : World) (R bc : Nat) (v : Value) (ss : List Rm) (N : List Nat) (ms : List Pm) (ks : List (Int × Int)) (q : Nat) (S : Int × Int → Bool) : Prop where
  ns : NS w0 w R N ms ks
  ls : LsN w0 w v ss N
  cut : SetL 48 w bc q S
  cutN : bc ∉ N
  cutV : ∀ g, v.ownBlock = some g → g ≠ bc
  base : w0.heap.size ≤ bc
  same : ∀ p, S p = decide (p ∈ ks)

section
variable {w0 w w' : World} {R bc : Nat} {v : Value} {ss : List Rm} {N N' : List Nat} {ms ms' : List Pm} {ks ks' : List (Int × Int)} {q : Nat} {S : Int × Int → Bool}

theorem PS.below (h : PS w0 w R bc v ss N ms ks q S) (hb : Below w.heap.size w w') : PS w0 w' R bc v ss N ms ks q S :=
  ⟨h.ns.below hb, h.ls.below hb, h.cut.chg (gs := []) (Chg.of_below hb) (by simp), h.cutN, h.cutV, h.base, h.same⟩

/-- The network has turned, its links have not. -/
theorem PS.mv (h : PS w0 w R bc v ss N ms ks q S) (hN : Nt w' w0.heap.size R N' ms' ks) (hM : Mv w w' N N') : PS w0 w' R bc v ss N' ms' ks q S :=
  ⟨h.ns.mv hN hM, h.ls.mv hM, h.cut.chg hM.chg h.cutN, off_mv h.cutN h.cut.lt hM, h.cutV, h.base, h.same⟩

end

end Go.Proofs.YtggjpjpemgpeeaaGreat
