/-
  What the law DiskPlays knows, and how it goes on.
-/
import Derived.Test.YtfkknggjnbjnjaaAwake8
import Derived.Test.YtfkknggjnbjnjaaArgA
namespace Go.Proofs.Ytfkknggjnbjnjaa
open Go.RowKit

/-- append(s, x...) as one operation: bytes, s of the call's own, x whatever. -/
theorem wp_appB {o : Oper} {a : Act} {K : Act → World → Prop} {Q : Exit → Act → World → Prop} {w : World} (s x : Operand)
    (ho : o.op = .call { callee := .builtin .append, args := #[s, x], argTypes := #[25, 25] })
    (base g cap : Nat) (ps qs : List Nat) (hs : a.eval s = .slice (some ⟨g, 0, none⟩) ps.length cap) (hown : OwnB w base g cap ps)
    (xa : Option Addr) (xc : Nat) (hx : a.eval x = .slice xa qs.length xc) (hq : SeenAt w xa xc qs) (hb : ps.length + qs.length ≤ 1000000000) (hbase : base ≤ w.heap.size)
    (h : ∀ g' cap' w', OwnB w' base g' cap' (ps ++ qs) → Chg [g] w w' → (g' = g ∨ w.heap.size ≤ g') → K (a.put o.dst (.slice (some ⟨g', 0, none⟩) (ps ++ qs).length cap')) w') :
    Oper.wp Try.prog o a w K Q := by
  obtain ⟨i, hi, hz, hsz, hby⟩ := info8
  by_cases h0 : qs = []
  · subst h0
    have hfin := h g cap w (by rw [List.append_nil]; exact hown) (Chg.refl _ _) (.inl rfl)
    rw [List.append_nil] at hfin
    have hrun : (Builtin.append_ #[25, 25] o.type #[.slice (some ⟨g, 0, none⟩) ps.length cap, .slice xa 0 xc]).run Try.prog w = .ok (.slice (some ⟨g, 0, none⟩) ps.length cap) w := by
      have hc := hown.cap_le.1
      rcases xa with _ | ad
      · simp [Builtin.append_, run_underlying Try.underlying25, sizeOf, typeInfo, hi, Builtin.lenOf, Builtin.firstCells, hc, storeCells]
      · simp [Builtin.append_, run_underlying Try.underlying25, sizeOf, typeInfo, hi, Builtin.lenOf, Builtin.firstCells, hc, storeCells, loadCells, loadCellsFrom]
    have hx2 : a.eval x = .slice xa 0 xc := hx
    unfold Oper.wp
    simp [execOp, ho, resolve, invoke, builtin, hs, hx2, hrun, Result.andThen]
    exact hfin
  · have hpos : 0 < qs.length := by cases qs with | nil => exact absurd rfl h0 | cons c q => simp
    obtain ⟨b, off, rfl, _⟩ := hq.cell 0 hpos
    refine wp_append_lies w s x 25 ho base 5 i (.int .u8 0) 1 1 Try.underlying25 hi hz hsz hby rfl (by omega) _ _ _ hs hown.own ⟨b, off, none⟩ qs.length xc (vals qs) hx (by rw [vals_len]; omega)
      (fun j u hj => ?_) (vals_one qs) hpos (by unfold maxLen; omega) (by omega) hbase w.heap.size rfl ?_
    · have hl : j < qs.length := by
        rcases Nat.lt_or_ge j qs.length with hlt | hge
        · exact hlt
        · rw [List.getElem?_eq_none (by rw [vals_len]; exact hge)] at hj; cases hj
      rw [vals_at qs j hl] at hj
      rw [← hj, Go.WideShapes.add_plain]
      obtain ⟨b', off', e, hc⟩ := hq.cell j hl
      cases e
      exact hc
    · intro g' cap' w' hown' hg hat hlt
      rw [← List.length_append]
      refine h g' cap' w' ⟨?_, bytes_app hown.byte hq.byte⟩ (Chg.of_grown hg) ?_
      · rw [vals_app, List.length_append]
        exact hown'
      · rcases hat with hat | hat
        · left; cases hat; rfl
        · right; omega

section
variable {P : Program} {ops : Array Oper} {Q : Exit → Act → World → Prop} {md : Region.Mode}

/-- Number i alone may come up, and what held at the beginning holds behind it. -/
theorem wpAnyH_oneS {S : World → Prop} {i : Nat} {o : Oper} {fuel : Nat} {listed : Array Bool} {a : Act} {w : World} (ho : ops[i]? = some o) (hr : Region.ready md ops listed = [i])
    (hw : Region.wanted o (yielded ops a.tmps) = true)
    (h : ∀ K' : Act → World → Prop, Shut (∀ a w', S w' → wpAnyH P md ops (NoPanic Q) S fuel (listed.setIfInBounds i true) a w' → K' a w') → Oper.wp P o a w K' (NoPanic Q)) :
    wpAnyH P md ops (NoPanic Q) S (fuel + 1) listed a w := by
  refine wpAnyH_all hr (by simp) fun j hj => ?_
  obtain rfl : j = i := by simpa using hj
  refine wpOp_step ho fun K' hK => ?_
  rw [if_pos hw]
  exact h K' fun a w' hE hW => hK a w' ⟨hE, hW⟩

end

/-- What the law knows at the head of a round: its own bytes (in block ga), the disk's. -/
structure Pl (w ws : World) (R : Nat) (b : Option Addr) (ga ca : Nat) (s : DS) (tn : Bool) (t : Nat) : Prop where
  disk : DW w ws R b s
  all : OwnB ws w.heap.size ga ca s.ps
  apart : ga ≠ R ∧ ga ∉ blk b
  torn : s.off = false → tn = s.torn ∧ (tn = true → t = s.lim)

theorem Pl.below {w x x' : World} {R ga ca t : Nat} {b : Option Addr} {s : DS} {tn : Bool} (h : Pl w x R b ga ca s tn t) (hb : Below x.heap.size x x') : Pl w x' R b ga ca s tn t :=
  ⟨h.disk.below hb, h.all.chg (gs := []) (Chg.of_below hb) (by simp), h.apart, h.torn⟩

/-- The disk has been written; the bytes are those of block g. -/
theorem Pl.wrote {w x x' : World} {R g c t : Nat} {b b' : Option Addr} {s s' : DS} {tn : Bool} (hD : DW w x R b s) (ho : OwnB x w.heap.size g c s'.ps) (hap : g ≠ R ∧ g ∉ blk b) (hd : Dsk x' w.heap.size R b' s') (hg : Chg (R :: blk b) x x') (hw : Went x b b')
    (ht : s'.off = false → tn = s'.torn ∧ (tn = true → t = s'.lim)) : Pl w x' R b' g c s' tn t := by
  refine ⟨hD.wrote hd hg, ho.chg hg (by simp; exact hap), ⟨hap.1, ?_⟩, ht⟩
  rcases hw with rfl | rfl | ⟨g', rfl, hg'⟩
  · exact hap.2
  · simp [blk]
  · have := ho.lt
    simp [blk]
    omega

/-- A method without results has been called. -/
theorem Pl.done {w x x' : World} {R ga ca t t' : Nat} {b : Option Addr} {s s' : DS} {tn tn' : Bool} (h : Pl w x R b ga ca s tn t) (hd : Dsk x' w.heap.size R b s') (hg : Chg [R] x x') (he : s'.ps = s.ps)
    (ht : s'.off = false → tn' = s'.torn ∧ (tn' = true → t' = s'.lim)) : Pl w x' R b ga ca s' tn' t' :=
  ⟨h.disk.done hd hg, by rw [he]; exact h.all.chg hg (by simp; exact h.apart.1), h.apart, ht⟩

/-- A block that is newer than the disk's is none of them. -/
theorem DW.newer {w x : World} {R g : Nat} {b : Option Addr} {s : DS} (h : DW w x R b s) (hg : x.heap.size ≤ g) : g ≠ R ∧ g ∉ blk b := by
  obtain ⟨cap, _, hc⟩ := h.dsk.con
  have h1 := h.dsk.lt
  exact ⟨by omega, fun e => by have := (hc.lt e).2; omega⟩

/-- The box of an act. -/
structure Bx (x : World) (B : Nat) (what n : Int) (ra : Option Addr) (l rc : Nat) : Prop where
  c0 : x.cell? ⟨B, 0, none⟩ = some (.int .i64 what)
  c1 : x.cell? ⟨B, 1, none⟩ = some (.int .i64 n)
  c2 : x.cell? ⟨B, 2, none⟩ = some (.slice ra l rc)

theorem Bx.chg {gs : List Nat} {x x' : World} {B l rc : Nat} {what n : Int} {ra : Option Addr} (h : Bx x B what n ra l rc) (hb : Chg gs x x') (hn : B ∉ gs) : Bx x' B what n ra l rc :=
  ⟨hb.cell h.c0 hn, hb.cell h.c1 hn, hb.cell h.c2 hn⟩

theorem Bx.below {x x' : World} {B l rc : Nat} {what n : Int} {ra : Option Addr} (h : Bx x B what n ra l rc) (hb : Below x.heap.size x x') : Bx x' B what n ra l rc := h.chg (gs := []) (Chg.of_below hb) (by simp)

theorem Bx.lt {x : World} {B l rc : Nat} {what n : Int} {ra : Option Addr} (h : Bx x B what n ra l rc) : B < x.heap.size := World.block_lt_of_cell? x ⟨B, 0, none⟩ h.c0

theorem bx_new (x : World) (what n : Int) (ra : Option Addr) (l rc : Nat) : Bx (x.alloc (.cells #[.int .i64 what, .int .i64 n, .slice ra l rc] 27)) x.heap.size what n ra l rc := ⟨by simp, by simp, by simp⟩

theorem wrt_off (s : DS) (b : List Nat) (rep : Bool) (h : s.off = true) : wrt s b rep = (6, s) := by unfold wrt; rw [if_pos h]
theorem wrt_full (s : DS) (b : List Nat) (rep : Bool) (h : s.off = false) (hr : s.room < (if rep then 0 else s.ps.length) + b.length) : wrt s b rep = (5, s) := by
  unfold wrt; rw [if_neg (by rw [h]; simp), if_pos hr]
theorem wrt_ok (s : DS) (b : List Nat) (rep : Bool) (h : s.off = false) (hr : ¬ s.room < (if rep then 0 else s.ps.length) + b.length) (ht : s.torn = false) : wrt s b rep = (0, { s with ps := (if rep then [] else s.ps) ++ b }) := by
  unfold wrt; rw [if_neg (by rw [h]; simp), if_neg hr, if_neg (by rw [ht]; simp)]

theorem wf_int {z : Int} (h : (Lit.int .i64 z).wf = true) : -9223372036854775808 ≤ z ∧ z ≤ 9223372036854775807 := by simpa [Lit.wf, IntKind.min, IntKind.max, IntKind.signed, IntKind.bits] using h

end Go.Proofs.Ytfkknggjnbjnjaa
