/-
  The laws' fixed fact, of layer 8; the law DiskNone.
-/
import Derived.Test.YtfkknggjnbjnjaaDk2
import Derived.Lib.SlBytesConst
namespace Go.Proofs.Ytfkknggjnbjnjaa
open Go.RowKit

theorem lit_ok (w : World) (ps : List Nat) (cs : Array Value) (m : Nat × Nat) (n : Nat) (hn : ps.length = n) (hcs : cs.toList = vals ps) (hB : Gf.Bytes ps) (hm : ps.length ≤ maxLen) :
    SeenAt (w.alloc (.cells cs 5 m)) (some ⟨w.heap.size, 0, none⟩) n ps := by
  subst hn
  exact seen_lit w ps cs m hcs hB hm

theorem far_new {w : World} {R B : Nat} (h : R < w.heap.size) (hB : w.heap.size = B) : ∀ g ∈ blk (some ⟨B, 0, none⟩), g ≠ R := by
  intro g hg
  simp [blk] at hg
  omega

set_option maxRecDepth 100000 in
set_option maxHeartbeats 1000000 in
theorem awake8 (w : World) :
    Calls Try.prog 16 #[] w fun e w' => e = .returned (.bool true) ∧ Below w.heap.size w w' := by
  have kc := fun (w : World) (C : Array Value) (n c : Nat) => Lib.run_convert_bytes_const (P := Try.prog) w 25 5 C n c Try.underlying25 Try.underlying5
  have k1 : wrt ⟨[], 5, false, false, 0⟩ [97, 98] false = (0, ⟨[97, 98], 5, false, false, 0⟩) := by simp [wrt]
  have k2 : wrt ⟨[97, 98], 5, false, false, 0⟩ [99, 100, 101, 102] false = (5, ⟨[97, 98], 5, false, false, 0⟩) := by simp [wrt]
  have k3 : wrt ⟨[97, 98], 5, false, true, 1⟩ [120, 121] false = (6, ⟨[97, 98, 120], 5, true, true, 1⟩) := by simp [wrt]
  have K1 := Lib.hid k1
  have K2 := Lib.hid k2
  have K3 := Lib.hid k3
  clear k1 k2 k3
  go_enter Try.func16, Try.ntmps16
  go_wp2_with fail
  refine (disk_new 5 _).mono ?_
  rintro e w1 ⟨R, rfl, -, hd1, hb1⟩
  rw [show roomOf 5 = 5 by decide] at hd1
  have H1 : Hid (DW w w1 R none ⟨[], 5, false, false, 0⟩) := ⟨hd1, hb1⟩
  clear hd1 hb1
  go_wp2_with fail
  refine (disk_append w.heap.size R none ⟨[], 5, false, false, 0⟩ _ 2 2 [97, 98] _ (H1.out.alloc (.cells #[.int .u8 97, .int .u8 98] 5 (2, 3))).dsk rfl (lit_ok _ [97, 98] #[.int .u8 97, .int .u8 98] (2, 3) 2 rfl rfl (by intro c hc; simp at hc; omega) (by unfold maxLen; simp)) (fun _ => far_new H1.out.dsk.lt rfl)).mono ?_
  rw [K1.out]
  rintro e w2 ⟨rfl, a2, hd2, hg2, _⟩
  have H2 : Hid (DW w w2 R a2 ⟨[97, 98], 5, false, false, 0⟩) := (H1.out.alloc _).wrote hd2 hg2
  clear hd2 hg2
  go_wp2_with fail
  refine (disk_append w.heap.size R a2 ⟨[97, 98], 5, false, false, 0⟩ _ 4 4 [99, 100, 101, 102] _ (H2.out.alloc (.cells #[.int .u8 99, .int .u8 100, .int .u8 101, .int .u8 102] 5 (4, 5))).dsk rfl (lit_ok _ [99, 100, 101, 102] #[.int .u8 99, .int .u8 100, .int .u8 101, .int .u8 102] (4, 5) 4 rfl rfl (by intro c hc; simp at hc; omega) (by unfold maxLen; simp)) (fun _ => far_new H2.out.dsk.lt rfl)).mono ?_
  rw [K2.out]
  rintro e w3 ⟨rfl, a3, hd3, hg3, _⟩
  have H3 : Hid (DW w w3 R a3 ⟨[97, 98], 5, false, false, 0⟩) := (H2.out.alloc _).wrote hd3 hg3
  clear hd3 hg3
  go_wp2_with fail
  refine (disk_tear w.heap.size R a3 _ 1 _ H3.out.dsk).mono ?_
  rintro e w4 ⟨rfl, hd4, hg4⟩
  have H4 : Hid (DW w w4 R a3 ⟨[97, 98], 5, false, true, 1⟩) := H3.out.done hd4 hg4
  clear hd4 hg4
  go_wp2_with fail
  refine (disk_append w.heap.size R a3 ⟨[97, 98], 5, false, true, 1⟩ _ 2 2 [120, 121] _ (H4.out.alloc (.cells #[.int .u8 120, .int .u8 121] 5 (2, 3))).dsk rfl (lit_ok _ [120, 121] #[.int .u8 120, .int .u8 121] (2, 3) 2 rfl rfl (by intro c hc; simp at hc; omega) (by unfold maxLen; simp)) (fun _ => far_new H4.out.dsk.lt rfl)).mono ?_
  rw [K3.out]
  rintro e w5 ⟨rfl, a5, hd5, hg5, _⟩
  have H5 : Hid (DW w w5 R a5 ⟨[97, 98, 120], 5, true, true, 1⟩) := (H4.out.alloc _).wrote hd5 hg5
  clear hd5 hg5
  go_wp2_with fail
  refine (disk_up w.heap.size R a5 _ _ H5.out.dsk).mono ?_
  rintro e w' ⟨rfl, rfl⟩
  go_wp2_with fail
  refine (disk_read_off w.heap.size R a5 _ _ H5.out.dsk rfl).mono ?_
  rintro e w' ⟨rfl, rfl⟩
  go_wp2_with fail
  refine (disk_start w.heap.size R a5 _ _ H5.out.dsk).mono ?_
  rintro e w6 ⟨rfl, hd6, hg6⟩
  have H6 : Hid (DW w w6 R a5 ⟨[97, 98, 120], 5, false, false, 1⟩) := H5.out.done hd6 hg6
  clear hd6 hg6
  go_wp2_with fail
  refine (disk_read_on w.heap.size R a5 _ _ H6.out.dsk rfl).mono ?_
  rintro e w7 ⟨a7, c7, rfl, hs7, _, hb7⟩
  have H7 : Hid (Below w.heap.size w w7) := H6.out.bel.trans (hb7.mono H6.out.bel.size)
  have hstr := str_at hs7 (n := 3) rfl
  rw [show strB [97, 98, 120] = ⟨#[97, 98, 120]⟩ by decide] at hstr
  clear hb7 hs7
  go_wp2
  go_ret
  exact ⟨rfl, H7.out⟩

theorem u8_of {x : Int} (h : (Lit.int .u8 x).wf = true) : ∃ n : Nat, n < 256 ∧ x = (n : Int) := by
  have : 0 ≤ x ∧ x ≤ 255 := by simpa [Lit.wf, IntKind.min, IntKind.max, IntKind.signed, IntKind.bits] using h
  exact ⟨x.toNat, by omega, by omega⟩

/-- What was handed back in new memory stays when the disk is written. -/
theorem seen_off {x w1 w2 : World} {base R xc : Nat} {b xa : Option Addr} {s : DS} {ps : List Nat} (hs : SeenAt w1 xa xc ps) (hf : Fresh x w1 xa) (h : Dsk x base R b s) (hg : Chg (R :: blk b) w1 w2) : SeenAt w2 xa xc ps := by
  refine hs.chg hg fun b' off e hm => ?_
  obtain ⟨cap, _, hc⟩ := h.con
  have h1 := h.lt
  rcases hf with e' | ⟨b2, off2, e', h2, _⟩
  · rw [e'] at e; cases e
  · rw [e'] at e
    cases e
    rcases List.mem_cons.mp hm with e3 | e3
    · omega
    · have := (hc.lt e3).2; omega

theorem below_drew (x : World) : Below x.heap.size x x.drew := ⟨rfl, rfl, rfl, Nat.le_refl _, fun _ _ => rfl⟩

theorem slice_opt (xa : Option Addr) (q c l : Nat) (h : l ≤ c) (w : World) : (Instr.slice 25 (.slice xa q c) none (some (.int .i64 (l : Int))) none).run Try.prog w = .ok (.slice xa l c) w := by
  rw [run_slice_h w 25 xa q c (by kernel_rfl) .i64 (l : Int) (by omega) (by omega)]
  have hs : (sizeOf (Try.prog.elem 25)).run Try.prog w = .ok 1 w := by kernel_rfl
  rw [hs]
  rcases xa with _ | ⟨b, off, p⟩
  · simp [Result.andThen, sliced]
  · rcases p with _ | p <;> simp [Result.andThen, sliced, Addr.add]

theorem slice_opt' (xa : Option Addr) (q c l : Nat) (h : l ≤ c) (w : World) : (Instr.sliceAt 25 (.slice xa q c) none (some (.int .i64 (l : Int))) none).run Try.prog w = .ok (.slice xa l c) w := by
  rw [run_sliceAt_slice w 25 _ _ _ _ (by kernel_rfl)]
  exact slice_opt xa q c l h w

set_option maxRecDepth 100000 in
set_option maxHeartbeats 1000000 in
theorem diskNone_walk (a : Option Addr) (l cap : Nat) (m : List Nat) (n : Int) (w : World) (_ : m.length = l ∧ SeenAt w a cap m) (_ : (Lit.int .i64 n).wf = true) :
    Calls Try.prog 5 #[.slice a l cap, .int .i64 n] w fun e w' => e = .returned (.bool true) ∧ Below w.heap.size w w' := by
  go_enter Try.func5, Try.ntmps5
  go_wp2_with fail
  refine (tear_nil _ _).mono ?_
  rintro e w1 ⟨rfl, rfl⟩
  go_wp2_with fail
  refine (crash_nil _).mono ?_
  rintro e w1 ⟨rfl, rfl⟩
  go_wp2_with fail
  refine (start_nil _).mono ?_
  rintro e w1 ⟨rfl, rfl⟩
  go_wp2_with fail
  refine (read_nil _).mono ?_
  rintro e w1 ⟨rfl, rfl⟩
  go_wp2_with fail
  refine (awake8 _).mono ?_
  rintro e w1 ⟨rfl, hb1⟩
  go_wp2_with fail
  refine (append_nil _ _ _ _).mono ?_
  rintro e w2 ⟨rfl, rfl⟩
  go_wp2_with fail
  refine (replace_nil _ _ _ _).mono ?_
  rintro e w2 ⟨rfl, rfl⟩
  go_wp2_with fail
  refine (up_nil _).mono ?_
  rintro e w2 ⟨rfl, rfl⟩
  go_wp2
  go_ret
  exact ⟨rfl, hb1⟩

end Go.Proofs.Ytfkknggjnbjnjaa
