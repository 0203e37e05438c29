/-
  The reference's Find.
-/
import Derived.Test.YtdifnipjmnbojaaWalksL1
namespace Go.Proofs.Ytdifnipjmnbojaa
open Go.RowKit








set_option maxRecDepth 100000 in
set_option maxHeartbeats 4000000 in
theorem refFind_any (a : Option Addr) (cap l : Nat) (es : List Pe) (key : ByteArray) (last : Int) (w : World) (hl : es.length = l) (h : EnsAt w a cap es) :
    Calls Try.prog 9 #[.slice a l cap, .string key, .int .i64 last] w (RetA w (ansF es (fndU es last key.data.toList l)).1 (ansF es (fndU es last key.data.toList l)).2) := by
  have hm : l ≤ maxLen := by have := h.le; have := h.max; omega
  unfold maxLen at hm
  have HE := Lib.hid h
  have HL := Lib.hid hl
  clear h hl
  have HX0 : Hid (Bx ((w.alloc (.cells #[.int .i64 0, .int .i64 0, .int .i64 0, .int .i64 0, .string ⟨#[]⟩, .int .i64 0, .int .u32 0, .slice none 0 0] 26)).alloc (.cells #[.int .i64 0, .int .i64 0, .int .i64 0, .int .i64 0, .string ⟨#[]⟩, .int .i64 0, .int .u32 0, .slice none 0 0] 26)) (w.heap.size + 1) 26 (ecs pe0 none 0)) := by
    have := bx_new8 (w.alloc (.cells #[.int .i64 0, .int .i64 0, .int .i64 0, .int .i64 0, .string ⟨#[]⟩, .int .i64 0, .int .u32 0, .slice none 0 0] 26)) #[.int .i64 0, .int .i64 0, .int .i64 0, .int .i64 0, .string ⟨#[]⟩, .int .i64 0, .int .u32 0, .slice none 0 0] 26
    rw [World.size_alloc] at this
    exact this
  have HZ0 : Hid (Bx ((w.alloc (.cells #[.int .i64 0, .int .i64 0, .int .i64 0, .int .i64 0, .string ⟨#[]⟩, .int .i64 0, .int .u32 0, .slice none 0 0] 26)).alloc (.cells #[.int .i64 0, .int .i64 0, .int .i64 0, .int .i64 0, .string ⟨#[]⟩, .int .i64 0, .int .u32 0, .slice none 0 0] 26)) w.heap.size 26 #[.int .i64 0, .int .i64 0, .int .i64 0, .int .i64 0, .string ⟨#[]⟩, .int .i64 0, .int .u32 0, .slice none 0 0]) :=
    (bx_new8 w _ _).chg (gs := []) (Chg.of_below (below_one _ _)) (by simp)
  have HB0 : Hid (Below w.heap.size w ((w.alloc (.cells #[.int .i64 0, .int .i64 0, .int .i64 0, .int .i64 0, .string ⟨#[]⟩, .int .i64 0, .int .u32 0, .slice none 0 0] 26)).alloc (.cells #[.int .i64 0, .int .i64 0, .int .i64 0, .int .i64 0, .string ⟨#[]⟩, .int .i64 0, .int .u32 0, .slice none 0 0] 26))) := (below_one w _).alloc (by simp) _
  go_enter Try.func9, Try.ntmps9
  go_wp2
  go_loopw [9, 10, 11] (fun o i _ ws => ∃ (k : Nat) (p : Pe) (loc : Option Addr) (c : Nat) (ok : Bool), k ≤ l ∧ i = .int .i64 k ∧ o = .bool ok ∧ Hid (ansF es (fndU es last key.data.toList k) = (p, ok)) ∧ Hid (Bx ws (w.heap.size + 1) 26 (ecs p loc c)) ∧
      Hid (Bx ws w.heap.size 26 #[.int .i64 0, .int .i64 0, .int .i64 0, .int .i64 0, .string ⟨#[]⟩, .int .i64 0, .int .u32 0, .slice none 0 0]) ∧ Hid (SeenAt w loc c p.frag) ∧ Hid (Below w.heap.size w ws)) (fun _ i _ _ => l - (intOf i).toNat)
  case atStart => exact ⟨0, pe0, none, 0, false, Nat.zero_le _, rfl, rfl, rfl, HX0, HZ0, SeenAt.nil (Nat.zero_le _), HB0⟩
  case round =>
    obtain ⟨k, p, loc, c, ok, hk, rfl, rfl, HA, HX, HZ, HS, HB⟩ := hrel
    by_cases hlt : k < l
    · obtain ⟨b, off, ql, qc, rfl, hc0⟩ := HE.out.el k (by rw [HL.out]; exact hlt)
      have hc := hc0.below HB.out
      have c0 := hc.c0
      have c1 := hc.c1
      have c2 := hc.c2
      have c3 := hc.c3
      have c4 := hc.c4
      have c5 := hc.c5
      have c6 := hc.c6
      have c7 := hc.c7
      have HQS := Lib.hid hc0.seen
      have HY : Hid (hit key.data.toList last (es.getD k pe0) = true → ansF es (fndU es last key.data.toList (k + 1)) = (es.getD k pe0, true)) := fun h => by unfold fndU; rw [lastU_yes h]; rfl
      have HN : Hid (hit key.data.toList last (es.getD k pe0) = false → ansF es (fndU es last key.data.toList (k + 1)) = (p, ok)) := fun h => by rw [← HA.out]; unfold fndU; rw [lastU_no h]
      have hks := key_same (es.getD k pe0) key
      clear hc hc0
      generalize es.getD k pe0 = q at *
      have hbl := below_one wr (.cells #[.int .i64 q.seq, .int .i64 q.client, .int .i64 q.num, .int .i64 q.op, .string (strB q.key), .int .i64 q.size, .int .u32 (q.sum : Int), .slice ql q.frag.length qc] 26)
      have HX1 := Lib.hid (HX.out.chg (gs := []) (Chg.of_below hbl) (by simp))
      have HZ1 := Lib.hid (HZ.out.chg (gs := []) (Chg.of_below hbl) (by simp))
      have HB1 := Lib.hid (HB.out.trans (hbl.mono HB.out.size))
      have j1 : (k : Int) < (l : Int) := by omega
      have j0 : (0 : Int) ≤ (k : Int) := by omega
      unfold ecs at HX1
      clear hbl HA HX HZ HB
      by_cases h1 : kb q = key.data.toList
      · have d1 : ((strB q.key).toList == key.toList) = true := by rw [hks]; simp [h1]
        by_cases h2 : q.seq ≤ last
        · have d2 : decide (q.seq ≤ last) = true := by simp [h2]
          by_cases h3 : q.op = 1
          · have d3 : (q.op == 1) = true := by simp [h3]
            have HA1 := Lib.hid (HY.out (hit_iff.2 ⟨h1, h2, .inl h3⟩))
            clear h1 h2 h3 hks HY HN
            have y0 := HX1.out.cell 0 (.int .i64 p.seq) rfl
            have y1 := HX1.out.cell 1 (.int .i64 p.client) rfl
            have y2 := HX1.out.cell 2 (.int .i64 p.num) rfl
            have y3 := HX1.out.cell 3 (.int .i64 p.op) rfl
            have y4 := HX1.out.cell 4 (.string (strB p.key)) rfl
            have y5 := HX1.out.cell 5 (.int .i64 p.size) rfl
            have y6 := HX1.out.cell 6 (.int .u32 (p.sum : Int)) rfl
            have y7 := HX1.out.cell 7 (.slice loc p.frag.length c) rfl
            have g0 := HX1.out.free 0
            have g1 := HX1.out.free 1
            have g2 := HX1.out.free 2
            have g3 := HX1.out.free 3
            have g4 := HX1.out.free 4
            have g5 := HX1.out.free 5
            have g6 := HX1.out.free 6
            have g7 := HX1.out.free 7
            have HP8 := Lib.hid (HX1.out.put8 (.int .i64 q.seq) (.int .i64 q.client) (.int .i64 q.num) (.int .i64 q.op) (.string (strB q.key)) (.int .i64 q.size) (.int .u32 (q.sum : Int)) (.slice ql q.frag.length qc))
            have HB2 := Lib.hid (HP8.out.2.below HB1.out HB1.out.size (by simp))
            have HZ2 := Lib.hid (HZ1.out.chg HP8.out.2 (by simp))
            clear HX1 HZ1 HB1
            go_wp2_with fail
            generalize ((((((((wr.alloc (.cells #[.int .i64 q.seq, .int .i64 q.client, .int .i64 q.num, .int .i64 q.op, .string (strB q.key), .int .i64 q.size, .int .u32 (q.sum : Int), .slice ql q.frag.length qc] 26)).setCell ⟨w.heap.size + 1, 0, none⟩ (.int .i64 q.seq)).setCell ⟨w.heap.size + 1, 1, none⟩ (.int .i64 q.client)).setCell ⟨w.heap.size + 1, 2, none⟩ (.int .i64 q.num)).setCell ⟨w.heap.size + 1, 3, none⟩ (.int .i64 q.op)).setCell ⟨w.heap.size + 1, 4, none⟩ (.string (strB q.key))).setCell ⟨w.heap.size + 1, 5, none⟩ (.int .i64 q.size)).setCell ⟨w.heap.size + 1, 6, none⟩ (.int .u32 (q.sum : Int))).setCell ⟨w.heap.size + 1, 7, none⟩ (.slice ql q.frag.length qc) = w2 at *
            go_roundw
            case rel => exact ⟨k + 1, q, ql, qc, true, by omega, by go_num, rfl, HA1, HP8.out.1, HZ2, HQS, HB2⟩
            case measure => simp [intOf]; omega
          have d3 : (q.op == 1) = false := by simp [h3]
          by_cases h4 : q.op = 2
          · have d4 : (q.op == 2) = true := by simp [h4]
            have HA1 := Lib.hid (HY.out (hit_iff.2 ⟨h1, h2, .inr h4⟩))
            clear h1 h2 h3 h4 hks HY HN
            have y0 := HX1.out.cell 0 (.int .i64 p.seq) rfl
            have y1 := HX1.out.cell 1 (.int .i64 p.client) rfl
            have y2 := HX1.out.cell 2 (.int .i64 p.num) rfl
            have y3 := HX1.out.cell 3 (.int .i64 p.op) rfl
            have y4 := HX1.out.cell 4 (.string (strB p.key)) rfl
            have y5 := HX1.out.cell 5 (.int .i64 p.size) rfl
            have y6 := HX1.out.cell 6 (.int .u32 (p.sum : Int)) rfl
            have y7 := HX1.out.cell 7 (.slice loc p.frag.length c) rfl
            have g0 := HX1.out.free 0
            have g1 := HX1.out.free 1
            have g2 := HX1.out.free 2
            have g3 := HX1.out.free 3
            have g4 := HX1.out.free 4
            have g5 := HX1.out.free 5
            have g6 := HX1.out.free 6
            have g7 := HX1.out.free 7
            have HP8 := Lib.hid (HX1.out.put8 (.int .i64 q.seq) (.int .i64 q.client) (.int .i64 q.num) (.int .i64 q.op) (.string (strB q.key)) (.int .i64 q.size) (.int .u32 (q.sum : Int)) (.slice ql q.frag.length qc))
            have HB2 := Lib.hid (HP8.out.2.below HB1.out HB1.out.size (by simp))
            have HZ2 := Lib.hid (HZ1.out.chg HP8.out.2 (by simp))
            clear HX1 HZ1 HB1
            go_wp2_with fail
            generalize ((((((((wr.alloc (.cells #[.int .i64 q.seq, .int .i64 q.client, .int .i64 q.num, .int .i64 q.op, .string (strB q.key), .int .i64 q.size, .int .u32 (q.sum : Int), .slice ql q.frag.length qc] 26)).setCell ⟨w.heap.size + 1, 0, none⟩ (.int .i64 q.seq)).setCell ⟨w.heap.size + 1, 1, none⟩ (.int .i64 q.client)).setCell ⟨w.heap.size + 1, 2, none⟩ (.int .i64 q.num)).setCell ⟨w.heap.size + 1, 3, none⟩ (.int .i64 q.op)).setCell ⟨w.heap.size + 1, 4, none⟩ (.string (strB q.key))).setCell ⟨w.heap.size + 1, 5, none⟩ (.int .i64 q.size)).setCell ⟨w.heap.size + 1, 6, none⟩ (.int .u32 (q.sum : Int))).setCell ⟨w.heap.size + 1, 7, none⟩ (.slice ql q.frag.length qc) = w2 at *
            go_roundw
            case rel => exact ⟨k + 1, q, ql, qc, true, by omega, by go_num, rfl, HA1, HP8.out.1, HZ2, HQS, HB2⟩
            case measure => simp [intOf]; omega
          have d4 : (q.op == 2) = false := by simp [h4]
          have HA1 := Lib.hid (HN.out (hit_no.2 (fun h => h.2.2.elim h3 h4)))
          clear h1 h2 h3 h4 hks HY HN
          go_wp2
          go_roundw
          case rel => exact ⟨k + 1, p, loc, c, ok, by omega, by go_num, rfl, HA1, HX1, HZ1, HS, HB1⟩
          case measure => simp [intOf]; omega
        have d2 : decide (q.seq ≤ last) = false := by simp; omega
        have HA1 := Lib.hid (HN.out (hit_no.2 (fun h => h2 h.2.1)))
        clear h1 h2 hks HY HN
        go_wp2
        go_roundw
        case rel => exact ⟨k + 1, p, loc, c, ok, by omega, by go_num, rfl, HA1, HX1, HZ1, HS, HB1⟩
        case measure => simp [intOf]; omega
      have d1 : ((strB q.key).toList == key.toList) = false := by rw [hks]; simp [h1]
      have HA1 := Lib.hid (HN.out (hit_no.2 (fun h => h1 h.1)))
      clear h1 hks HY HN
      go_wp2
      go_roundw
      case rel => exact ⟨k + 1, p, loc, c, ok, by omega, by go_num, rfl, HA1, HX1, HZ1, HS, HB1⟩
      case measure => simp [intOf]; omega
    · obtain rfl : k = l := by omega
      unfold ecs at HX
      have k0 := HX.out.cell 0 (.int .i64 p.seq) rfl
      have k1 := HX.out.cell 1 (.int .i64 p.client) rfl
      have k2 := HX.out.cell 2 (.int .i64 p.num) rfl
      have k3 := HX.out.cell 3 (.int .i64 p.op) rfl
      have k4 := HX.out.cell 4 (.string (strB p.key)) rfl
      have k5 := HX.out.cell 5 (.int .i64 p.size) rfl
      have k6 := HX.out.cell 6 (.int .u32 (p.sum : Int)) rfl
      have k7 := HX.out.cell 7 (.slice loc p.frag.length c) rfl
      have y0 := HZ.out.cell 0 (.int .i64 0) rfl
      have y1 := HZ.out.cell 1 (.int .i64 0) rfl
      have y2 := HZ.out.cell 2 (.int .i64 0) rfl
      have y3 := HZ.out.cell 3 (.int .i64 0) rfl
      have y4 := HZ.out.cell 4 (.string ⟨#[]⟩) rfl
      have y5 := HZ.out.cell 5 (.int .i64 0) rfl
      have y6 := HZ.out.cell 6 (.int .u32 0) rfl
      have y7 := HZ.out.cell 7 (.slice none 0 0) rfl
      have g0 := HZ.out.free 0
      have g1 := HZ.out.free 1
      have g2 := HZ.out.free 2
      have g3 := HZ.out.free 3
      have g4 := HZ.out.free 4
      have g5 := HZ.out.free 5
      have g6 := HZ.out.free 6
      have g7 := HZ.out.free 7
      have HP8 := Lib.hid (HZ.out.put8 (.int .i64 p.seq) (.int .i64 p.client) (.int .i64 p.num) (.int .i64 p.op) (.string (strB p.key)) (.int .i64 p.size) (.int .u32 (p.sum : Int)) (.slice loc p.frag.length c))
      have HB2 := Lib.hid (HP8.out.2.below HB.out HB.out.size (by simp))
      clear HX HZ HB
      go_wp2_with fail
      generalize (((((((wr.setCell ⟨w.heap.size, 0, none⟩ (.int .i64 p.seq)).setCell ⟨w.heap.size, 1, none⟩ (.int .i64 p.client)).setCell ⟨w.heap.size, 2, none⟩ (.int .i64 p.num)).setCell ⟨w.heap.size, 3, none⟩ (.int .i64 p.op)).setCell ⟨w.heap.size, 4, none⟩ (.string (strB p.key))).setCell ⟨w.heap.size, 5, none⟩ (.int .i64 p.size)).setCell ⟨w.heap.size, 6, none⟩ (.int .u32 (p.sum : Int))).setCell ⟨w.heap.size, 7, none⟩ (.slice loc p.frag.length c) = w2 at *
      clear k0 k1 k2 k3 k4 k5 k6 k7
      clear y0 y1 y2 y3 y4 y5 y6 y7
      clear g0 g1 g2 g3 g4 g5 g6 g7
      have k0 := HP8.out.1.cell 0 (.int .i64 p.seq) rfl
      have k1 := HP8.out.1.cell 1 (.int .i64 p.client) rfl
      have k2 := HP8.out.1.cell 2 (.int .i64 p.num) rfl
      have k3 := HP8.out.1.cell 3 (.int .i64 p.op) rfl
      have k4 := HP8.out.1.cell 4 (.string (strB p.key)) rfl
      have k5 := HP8.out.1.cell 5 (.int .i64 p.size) rfl
      have k6 := HP8.out.1.cell 6 (.int .u32 (p.sum : Int)) rfl
      have k7 := HP8.out.1.cell 7 (.slice loc p.frag.length c) rfl
      refine bodyPost_ret (v := .tuple #[.agg #[.int .i64 p.seq, .int .i64 p.client, .int .i64 p.num, .int .i64 p.op, .string (strB p.key), .int .i64 p.size, .int .u32 (p.sum : Int), .slice loc p.frag.length c], .bool ok]) (by simp [results, Try.results9, go_sem, k0, k1, k2, k3, k4, k5, k6, k7]) rfl ?_
      rw [HA.out]
      exact ⟨loc, c, rfl, HS.out.below HB2.out, HB2.out⟩

end Go.Proofs.Ytdifnipjmnbojaa
