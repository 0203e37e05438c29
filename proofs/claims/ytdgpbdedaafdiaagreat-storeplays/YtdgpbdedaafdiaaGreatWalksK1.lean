/-
  What keys does with one list: Num, copied, bare, current, newest; the values of a map (content).
-/
import Derived.Test.YtdgpbdedaafdiaaGreatKyM
import Derived.Test.YtdgpbdedaafdiaaGreatWalksV1
import Derived.Maps.RangeWalk
import Derived.Sort.KeysCollected
namespace Go.Proofs.YtdgpbdedaafdiaaGreat
open Go.RowKit Go.Maps Go.Sort






theorem ret_numU {p : Int × Int} {a b : Int} (h : p = (a, b)) : Ending.returned (.tuple #[.int .i64 a, .int .i64 b]) = .returned (.tuple #[.int .i64 p.1, .int .i64 p.2]) := by rw [h]

set_option maxRecDepth 100000 in
set_option maxHeartbeats 1000000 in
theorem copied_any (e : Pe) (loc : Option Addr) (c : Nat) (w : World) (h : SeenAt w loc c e.frag) (hm : e.frag.length ≤ 1000000000) :
    Calls Tryz.prog 50 #[.agg #[.int .i64 e.seq, .int .i64 e.client, .int .i64 e.num, .int .i64 e.op, .string (strB e.key), .int .i64 e.size, .int .u32 (e.sum : Int), .slice loc e.frag.length c]] w fun x w' =>
      ∃ loc' c', x = .returned (.agg #[.int .i64 e.seq, .int .i64 e.client, .int .i64 e.num, .int .i64 e.op, .string (strB e.key), .int .i64 e.size, .int .u32 (e.sum : Int), .slice loc' e.frag.length c']) ∧ SeenAt w' loc' c' e.frag ∧ Fresh w w' loc' ∧ Below w.heap.size w w' := by
  have HS := Lib.hid h
  clear h
  have HA0 : Hid (Bx (w.alloc (.cells (ecs e loc c) 41)) w.heap.size 41 (ecs e loc c)) := bx_new8 _ _ _
  have HZ0 : Hid (Bx ((w.alloc (.cells (ecs e loc c) 41)).alloc (.cells #[.int .i64 0, .int .i64 0, .int .i64 0, .int .i64 0, .string ⟨#[]⟩, .int .i64 0, .int .u32 0, .slice none 0 0] 41)) (w.heap.size + 1) 41 #[.int .i64 0, .int .i64 0, .int .i64 0, .int .i64 0, .string ⟨#[]⟩, .int .i64 0, .int .u32 0, .slice none 0 0]) := by
    have := bx_new8 (w.alloc (.cells (ecs e loc c) 41)) #[.int .i64 0, .int .i64 0, .int .i64 0, .int .i64 0, .string ⟨#[]⟩, .int .i64 0, .int .u32 0, .slice none 0 0] 41
    rw [World.size_alloc] at this
    exact this
  have HA1 := Lib.hid (HA0.out.chg (gs := []) (Chg.of_below (below_one _ (.cells #[.int .i64 0, .int .i64 0, .int .i64 0, .int .i64 0, .string ⟨#[]⟩, .int .i64 0, .int .u32 0, .slice none 0 0] 41))) (by simp))
  have HE0 := Lib.hid ((below_one w (.cells (ecs e loc c) 41)).alloc (by simp) (.cells #[.int .i64 0, .int .i64 0, .int .i64 0, .int .i64 0, .string ⟨#[]⟩, .int .i64 0, .int .u32 0, .slice none 0 0] 41))
  have HQ : Hid (((w.alloc (.cells (ecs e loc c) 41)).alloc (.cells #[.int .i64 0, .int .i64 0, .int .i64 0, .int .i64 0, .string ⟨#[]⟩, .int .i64 0, .int .u32 0, .slice none 0 0] 41)).heap.size = w.heap.size + 2) := by show _ = _; simp
  clear HA0
  unfold ecs at *
  go_enter Tryz.func50, Tryz.ntmps50
  go_wp2_with fail
  generalize (w.alloc (.cells #[.int .i64 e.seq, .int .i64 e.client, .int .i64 e.num, .int .i64 e.op, .string (strB e.key), .int .i64 e.size, .int .u32 (e.sum : Int), .slice loc e.frag.length c] 41)).alloc (.cells #[.int .i64 0, .int .i64 0, .int .i64 0, .int .i64 0, .string ⟨#[]⟩, .int .i64 0, .int .u32 0, .slice none 0 0] 41) = w0 at *
  refine (clone_any loc c _ e.frag w0 rfl hm (HS.out.below HE0.out)).mono ?_
  rintro x w1 ⟨a1, c1, rfl, hs1, hf1, hb1⟩
  have HA2 := Lib.hid (HA1.out.chg (gs := []) (Chg.of_below hb1) (by simp))
  have HZ2 := Lib.hid (HZ0.out.chg (gs := []) (Chg.of_below hb1) (by simp))
  have HB1 := Lib.hid (HE0.out.trans (hb1.mono HE0.out.size))
  have hne : ∀ b o, a1 = some ⟨b, o, none⟩ → b ≠ w.heap.size ∧ b ≠ w.heap.size + 1 := fun b o e1 => by
    rcases hf1 with h | ⟨b', o', h, h2, _⟩
    · rw [h] at e1; cases e1
    · rw [h] at e1; cases e1
      have := HQ.out
      omega
  have HF1 : Hid (a1 = none ∨ ∃ b off, a1 = some ⟨b, off, none⟩ ∧ w.heap.size ≤ b ∧ b < w1.heap.size) := by
    rcases hf1 with h | ⟨b', o', h, h2, h3⟩
    · exact .inl h
    · exact .inr ⟨b', o', h, by have := HQ.out; omega, h3⟩
  have HNE := Lib.hid hne
  have HS1 := Lib.hid hs1
  clear hs1 hf1 hb1 hne HA1 HZ0 HS HQ HE0
  have k0 := HA2.out.cell 0 (.int .i64 e.seq) rfl
  have k1 := HA2.out.cell 1 (.int .i64 e.client) rfl
  have k2 := HA2.out.cell 2 (.int .i64 e.num) rfl
  have k3 := HA2.out.cell 3 (.int .i64 e.op) rfl
  have k4 := HA2.out.cell 4 (.string (strB e.key)) rfl
  have k5 := HA2.out.cell 5 (.int .i64 e.size) rfl
  have k6 := HA2.out.cell 6 (.int .u32 (e.sum : Int)) rfl
  have k7 := HA2.out.cell 7 (.slice loc e.frag.length c) rfl
  have f7 := HA2.out.free 7
  have y0 := HZ2.out.cell 0 (.int .i64 0) rfl
  have y1 := HZ2.out.cell 1 (.int .i64 0) rfl
  have y2 := HZ2.out.cell 2 (.int .i64 0) rfl
  have y3 := HZ2.out.cell 3 (.int .i64 0) rfl
  have y4 := HZ2.out.cell 4 (.string ⟨#[]⟩) rfl
  have y5 := HZ2.out.cell 5 (.int .i64 0) rfl
  have y6 := HZ2.out.cell 6 (.int .u32 0) rfl
  have y7 := HZ2.out.cell 7 (.slice none 0 0) rfl
  have g0 := HZ2.out.free 0
  have g1 := HZ2.out.free 1
  have g2 := HZ2.out.free 2
  have g3 := HZ2.out.free 3
  have g4 := HZ2.out.free 4
  have g5 := HZ2.out.free 5
  have g6 := HZ2.out.free 6
  have g7 := HZ2.out.free 7
  have HC1 := Lib.hid (chg_set w1 w.heap.size 7 (.slice a1 e.frag.length c1))
  have HP := Lib.hid ((HZ2.out.chg HC1.out (by simp)).put8 (.int .i64 e.seq) (.int .i64 e.client) (.int .i64 e.num) (.int .i64 e.op) (.string (strB e.key)) (.int .i64 e.size) (.int .u32 (e.sum : Int)) (.slice a1 e.frag.length c1))
  go_wp2_with fail
  generalize ((((((((w1.setCell ⟨w.heap.size, 7, none⟩ (.slice a1 e.frag.length c1)).setCell ⟨w.heap.size + 1, 0, none⟩ (.int .i64 e.seq)).setCell ⟨w.heap.size + 1, 1, none⟩ (.int .i64 e.client)).setCell ⟨w.heap.size + 1, 2, none⟩ (.int .i64 e.num)).setCell ⟨w.heap.size + 1, 3, none⟩ (.int .i64 e.op)).setCell ⟨w.heap.size + 1, 4, none⟩ (.string (strB e.key))).setCell ⟨w.heap.size + 1, 5, none⟩ (.int .i64 e.size)).setCell ⟨w.heap.size + 1, 6, none⟩ (.int .u32 (e.sum : Int))).setCell ⟨w.heap.size + 1, 7, none⟩ (.slice a1 e.frag.length c1) = w2 at *
  have HC2 : Hid (Chg [w.heap.size, w.heap.size + 1] w1 w2) := (HC1.out.mono (by simp)).trans (HP.out.2.mono (by simp))
  clear k0 k1 k2 k3 k4 k5 k6 k7
  clear y0 y1 y2 y3 y4 y5 y6 y7
  clear g0 g1 g2 g3 g4 g5 g6 g7
  have k0 := HP.out.1.cell 0 (.int .i64 e.seq) rfl
  have k1 := HP.out.1.cell 1 (.int .i64 e.client) rfl
  have k2 := HP.out.1.cell 2 (.int .i64 e.num) rfl
  have k3 := HP.out.1.cell 3 (.int .i64 e.op) rfl
  have k4 := HP.out.1.cell 4 (.string (strB e.key)) rfl
  have k5 := HP.out.1.cell 5 (.int .i64 e.size) rfl
  have k6 := HP.out.1.cell 6 (.int .u32 (e.sum : Int)) rfl
  have k7 := HP.out.1.cell 7 (.slice a1 e.frag.length c1) rfl
  refine bodyPost_ret (v := .agg #[.int .i64 e.seq, .int .i64 e.client, .int .i64 e.num, .int .i64 e.op, .string (strB e.key), .int .i64 e.size, .int .u32 (e.sum : Int), .slice a1 e.frag.length c1]) (by simp [results, Tryz.results50, go_sem, k0, k1, k2, k3, k4, k5, k6, k7]) rfl ?_
  refine ⟨a1, c1, rfl, HS1.out.chg HC2.out (fun b o e1 => by simp; exact HNE.out b o e1), ?_, HC2.out.below HB1.out HB1.out.size (by simp)⟩
  rcases HF1.out with h | ⟨b', o', h, h2, h3⟩
  · exact .inl h
  · exact .inr ⟨b', o', h, h2, Nat.lt_of_lt_of_le h3 HC2.out.size⟩

end Go.Proofs.YtdgpbdedaafdiaaGreat
