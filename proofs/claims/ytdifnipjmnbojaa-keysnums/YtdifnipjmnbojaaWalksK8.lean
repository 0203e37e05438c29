/-
  slices.Backward over entries: what it hands to a loop's body; keys.Find.
-/
import Derived.Test.YtdifnipjmnbojaaWalksK7
import Derived.RangeFuncNested
import Derived.RangeFuncBound
import Derived.RangeFuncCalls
import Derived.RangeFuncLeaves
import Derived.Shelf.Abstract
import Derived.Shelf.RegionOpen
import Derived.OwnWalkIn
import Derived.TacticsInMore
import Derived.LoopNIn
import Derived.LoopIn
namespace Go.Proofs.Ytdifnipjmnbojaa
open Go.RowKit Go.Shelf

attribute [local go_sem] Oper.semAt_some

/-- What has come when k rounds are over: f 0, .., f (k - 1). -/
def uptoF {α : Type} (f : Nat → α) (k : Nat) : List α := (List.range k).map f
theorem uptoF_succ {α : Type} (f : Nat → α) (k : Nat) : uptoF f (k + 1) = uptoF f k ++ [f k] := by simp [uptoF, List.range_succ]
theorem uptoF_length {α : Type} (f : Nat → α) (k : Nat) : (uptoF f k).length = k := by simp [uptoF]

/-- An entry that lies in the world w, and its place. -/
structure Yl (w : World) where
  i : Nat
  x : El
  ok : SeenAt w x.loc x.cap x.p.frag ∧ x.p.frag.length ≤ 1000000000

def Yl.vals {w : World} (y : Yl w) : Array Value := #[.int .i64 (y.i : Int), .agg #[.int .i64 y.x.p.seq, .int .i64 y.x.p.client, .int .i64 y.x.p.num, .int .i64 y.x.p.op, .string (strB y.x.p.key), .int .i64 y.x.p.size, .int .u32 (y.x.p.sum : Int), .slice y.x.loc y.x.p.frag.length y.x.cap]]

set_option maxRecDepth 100000 in
set_option maxHeartbeats 2000000 in
/-- slices.Backward's closure, for every loop body that keeps what lay below n₀. -/
theorem back1_in {w0 : World} (F : Fence) (n : Nat) (h7 : F.fn 33) (hro : F.round = none) (hn : 1 ≤ n) (l Bs n₀ len cap : Nat) (a : Option Addr) (f : Nat → Yl w0) (hl9 : len ≤ 1000000) (hcap : len ≤ cap) (J Jx : List (Yl w0) → World → Prop)
    (hY : ∀ pre x W, J pre W → pre.length < len → YieldAt F (n - 1) Try.prog l x.vals W fun e W' =>
      (e = .returned (.bool true) ∧ J (pre ++ [x]) W' ∧ Below n₀ W W') ∨ (e = .returned (.bool false) ∧ Jx (pre ++ [x]) W'))
    (W : World) (hBs : W.cell? ⟨Bs, 0, none⟩ = some (.slice a len cap)) (hBl : Bs < n₀)
    (hc : ∀ j, j < len → (f j).i = len - 1 - j ∧ ∃ b off, a = some ⟨b, off, none⟩ ∧ b < n₀ ∧ EnCells W b (off + (len - 1 - j) * 8) (f j).x.p (f j).x.loc (f j).x.cap) (h0 : J [] W) :
    CallsIn F n Try.prog 33 #[.func (.yield l) #[] #[], .pointer (some ⟨Bs, 0, none⟩)] W fun e W' => (∃ v, e = .returned v) ∧
      ((∃ ys, ys = uptoF f len ∧ J ys W') ∨ (∃ pre, (∃ k, k ≤ len ∧ pre = uptoF f k) ∧ Jx pre W')) := by
  have HC := Lib.hid hc
  clear hc
  refine callsIn_of_wp Try.func33 rfl h7 ?_ hro
  simp only [Try.ntmps33, List.size_toArray, List.length_cons, List.length_nil, Nat.reduceAdd, Nat.reduceSub, Array.replicate_succ, Array.replicate_zero, List.push_toArray, List.append_toArray, List.nil_append, List.cons_append]
  gi_wp2
  gi_loopw [3] (fun i wr => ∃ (k : Nat) (z : Int), k ≤ len ∧ i = .int .i64 z ∧ z = (len : Int) - 1 - (k : Int) ∧ J (uptoF f k) wr ∧ Below n₀ W wr) (fun i _ => (intOf i + 1).toNat)
  case atStart => exact ⟨0, _, Nat.zero_le _, rfl, by omega, h0, Below.refl _ _⟩
  case round =>
    obtain ⟨k, z, hk, rfl, hz, hJs, hnx⟩ := hrel
    by_cases hlt : k < len
    · obtain ⟨q, rfl⟩ : ∃ q : Nat, z = (q : Int) := ⟨len - 1 - k, by omega⟩
      obtain ⟨hfi, b, off, rfl, hb, he⟩ := HC.out k hlt
      have hq : len - 1 - k = q := by omega
      rw [hq] at hfi he
      obtain ⟨fn, tmps, assign, body, hy, hR⟩ := hY _ (f k) wr hJs (by rw [uptoF_length]; exact hlt)
      have hbs := (hnx.cell (p := ⟨Bs, 0, none⟩) hBl).trans hBs
      have c0 := (hnx.cell (p := ⟨b, off + q * 8, none⟩) hb).trans he.c0
      have c1 := (hnx.cell (p := ⟨b, off + q * 8 + 1, none⟩) hb).trans he.c1
      have c2 := (hnx.cell (p := ⟨b, off + q * 8 + 2, none⟩) hb).trans he.c2
      have c3 := (hnx.cell (p := ⟨b, off + q * 8 + 3, none⟩) hb).trans he.c3
      have c4 := (hnx.cell (p := ⟨b, off + q * 8 + 4, none⟩) hb).trans he.c4
      have c5 := (hnx.cell (p := ⟨b, off + q * 8 + 5, none⟩) hb).trans he.c5
      have c6 := (hnx.cell (p := ⟨b, off + q * 8 + 6, none⟩) hb).trans he.c6
      have c7 := (hnx.cell (p := ⟨b, off + q * 8 + 7, none⟩) hb).trans he.c7
      have d0 : decide ((0 : Int) ≤ (q : Int)) = true := by simp
      have d1 : (0 : Int) ≤ (q : Int) := by omega
      have d2 : (q : Int) < (len : Int) := by omega
      have HUP := Lib.hid (uptoF_succ f k)
      have HZ := Lib.hid hz
      clear hz hq
      generalize f k = y at *
      obtain ⟨yi, ⟨yp, yl, yc⟩, yok⟩ := y
      dsimp only at hfi c0 c1 c2 c3 c4 c5 c6 c7
      subst hfi
      unfold Yl.vals at hy
      dsimp only at hy
      clear he
      gi_wp2
      refine hR.mono ?_
      rintro e W3 (⟨rfl, hJ3, hk3⟩ | ⟨rfl, hJx3⟩)
      · gi_wp2
        go_roundw
        case rel => exact ⟨k + 1, _, by omega, rfl, by have := HZ.out; omega, by rw [HUP.out]; exact hJ3, hnx.trans hk3⟩
        case measure => simp [intOf]
      · gi_wp2
        refine bodyPost_ret (results_none rfl _ _ _) rfl ?_
        exact ⟨⟨_, rfl⟩, .inr ⟨_, ⟨k + 1, by omega, HUP.out.symm⟩, hJx3⟩⟩
    · obtain rfl : k = len := by omega
      have d0 : decide ((0 : Int) ≤ z) = false := by simp; omega
      gi_wp2
      go_end0
      exact ⟨⟨_, rfl⟩, .inl ⟨_, rfl, hJs⟩⟩

set_option maxHeartbeats 1000000 in
/-- slices.Backward: the slice is boxed; the function value captures the box. -/
theorem backward_in (F : Fence) (n : Nat) (h5 : F.fn 20) (hro : F.round = none) (a : Option Addr) (len cap : Nat) (w : World) :
    CallsIn F n Try.prog 20 #[.slice a len cap] w fun e w' => e = .returned (.func (.func 33) #[] #[.pointer (some ⟨w.heap.size, 0, none⟩)]) ∧ w' = w.alloc (.cells #[.slice a len cap] 22) := by
  refine callsIn_of_wp Try.func20 rfl h5 ?_ hro
  simp only [Try.ntmps20, List.size_toArray, List.length_cons, List.length_nil, Nat.reduceAdd, Nat.reduceSub, Array.replicate_succ, Array.replicate_zero, List.push_toArray, List.append_toArray, List.nil_append, List.cons_append]
  gi_wp2
  go_ret
  exact ⟨rfl, rfl⟩

/-- What slices.Backward hands back, at a loop: the entries from the last to the first; or the last k of them. -/
theorem back_stops {w0 : World} (F : Fence) (n : Nat) (h7 : F.fn 33) (hro : F.round = none) (hn : 1 ≤ n) (Bs len cap : Nat) (a : Option Addr) (f : Nat → Yl w0) (hl9 : len ≤ 1000000) (hcap : len ≤ cap) (w : World) (hBl : Bs < w.heap.size)
    (hBs : w.cell? ⟨Bs, 0, none⟩ = some (.slice a len cap)) (hc : ∀ j, j < len → (f j).i = len - 1 - j ∧ ∃ b off, a = some ⟨b, off, none⟩ ∧ EnCells w b (off + (len - 1 - j) * 8) (f j).x.p (f j).x.loc (f j).x.cap) :
    SeqStopsK F n Try.prog 33 #[.pointer (some ⟨Bs, 0, none⟩)] Yl.vals (Below w.heap.size) (fun ys => ys = uptoF f len) (fun pre => ∃ k, k ≤ len ∧ pre = uptoF f k) len w := fun l J Jx W hW _ _ hY h0 =>
  back1_in F n h7 hro hn l Bs w.heap.size len cap a f hl9 hcap J Jx hY W ((hW.cell (p := ⟨Bs, 0, none⟩) hBl).trans hBs) hBl
    (fun j hj => by
      obtain ⟨h1, b, off, e, he⟩ := hc j hj
      exact ⟨h1, b, off, e, World.block_lt_of_cell? w _ he.c0, he.below hW⟩) h0

end Go.Proofs.Ytdifnipjmnbojaa
