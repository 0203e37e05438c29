/-
  The walk of the law KeysNums.
-/
import Derived.Test.YtdifnipjmnbojaaAwake10
import Derived.Test.YtdifnipjmnbojaaArgK
import Derived.Deep.DeepCutAuto
namespace Go.Proofs.Ytdifnipjmnbojaa
open Go.RowKit






theorem slice_toE (a : Option Addr) (q c l : Nat) (h : l ≤ c) (w : World) : (Instr.slice 22 (.slice a q c) none (some (.int .i64 (l : Int))) none).run Try.prog w = .ok (.slice a l c) w := by
  rw [run_slice_h w 22 a q c (by kernel_rfl) .i64 (l : Int) (by omega) (by omega)]
  have hs : (sizeOf (Try.prog.elem 22)).run Try.prog w = .ok 8 w := by kernel_rfl
  rw [hs]
  rcases a with _ | ⟨b, off, p⟩
  · simp [Result.andThen, sliced]
  · rcases p with _ | p <;> simp [Result.andThen, sliced, Addr.add]

theorem slice_toE' (a : Option Addr) (q c l : Nat) (h : l ≤ c) (w : World) : (Instr.sliceAt 22 (.slice a q c) none (some (.int .i64 (l : Int))) none).run Try.prog w = .ok (.slice a l c) w := by
  rw [run_sliceAt_slice w 22 _ _ _ _ (by kernel_rfl)]
  exact slice_toE a q c l h w

theorem EnsAt.take {w : World} {a : Option Addr} {cap : Nat} {es : List Pe} (h : EnsAt w a cap es) (n : Nat) : EnsAt w a cap (es.take n) :=
  ⟨Nat.le_trans (by rw [List.length_take]; omega) h.le, h.max, fun i hi => by
    rw [List.length_take] at hi
    obtain ⟨b, off, loc, c, e, he⟩ := h.el i (by omega)
    have e1 : (es.take n).getD i pe0 = es.getD i pe0 := by
      rw [List.getD_eq_getElem?_getD, List.getD_eq_getElem?_getD, List.getElem?_take_of_lt (by omega)]
    rw [e1]
    exact ⟨b, off, loc, c, e, he⟩, fun e he => h.wf e (List.mem_of_mem_take he)⟩

set_option maxRecDepth 100000 in
set_option maxHeartbeats 4000000 in
theorem keysNums_walk (a0 : Option Addr) (len0 cap0 : Nat) (m0 : List Pe) (a1 : Int) (w : World) (w0 : m0.length = len0 ∧ EnsAt w a0 cap0 m0) (_ : (Lit.int .i64 a1).wf = true) :
    Calls Try.prog 4 #[.slice a0 len0 cap0, .int .i64 a1] w fun e w' => e = .returned (.bool true) ∧ Below w.heap.size w w' := by
  have hm : len0 ≤ cap0 ∧ cap0 ≤ maxLen := ⟨by have := w0.1; have := w0.2.le; omega, w0.2.max⟩
  unfold maxLen at hm
  have HL := Lib.hid w0.1
  have HE := Lib.hid w0.2
  clear w0
  go_enter Try.func4, Try.ntmps4
  go_upto_if 12 with fail
  go_cut [0] (fun s wx => ∃ n : Nat, s = .slice a0 n cap0 ∧ n ≤ 200 ∧ Hid ((m0.take n).length = n) ∧ wx = w)
  case first =>
    by_cases h : 200 < len0
    · have d : decide ((200 : Int) < (len0 : Int)) = true := by simp; omega
      have s1 := slice_toE a0 len0 cap0 200 (by omega) w
      have s2 := slice_toE' a0 len0 cap0 200 (by omega) w
      have HT : Hid ((m0.take 200).length = 200) := by show _ = _; rw [List.length_take, HL.out]; omega
      go_wp2_with fail
      go_meet
      exact ⟨200, rfl, Nat.le_refl _, HT, rfl⟩
    · have d : decide ((200 : Int) < (len0 : Int)) = false := by simp; omega
      have HT : Hid ((m0.take len0).length = len0) := by show _ = _; rw [List.length_take, HL.out]; omega
      go_wp2_with fail
      go_meet
      exact ⟨len0, rfl, by omega, HT, rfl⟩
  case rest =>
  obtain ⟨l, rfl, hl, HT, hw⟩ := hcut
  obtain rfl := hw.symm
  clear hw
  have HE1 := Lib.hid (HE.out.take l)
  clear HE HL hm
  generalize m0.take l = es at *
  go_wp2
  go_loopw [5, 6, 7] (fun x y i ws => ∃ (k : Nat) (m q : Int), k ≤ l ∧ i = .int .i64 k ∧ x = .int .i64 m ∧ y = .int .i64 q ∧ Hid (numU es a1 k = (m, q)) ∧ Hid (Below w.heap.size w ws)) (fun _ _ i _ => l - (intOf i).toNat)
  case atStart => exact ⟨0, 0, 0, Nat.zero_le _, rfl, rfl, rfl, rfl, Below.refl _ _⟩
  case round =>
    obtain ⟨k, m, q, hk, rfl, rfl, rfl, HN, HB⟩ := hrel
    by_cases hlt : k < l
    · obtain ⟨b, off, loc, c, rfl, hc⟩ := (HE1.out.below HB.out).el k (by rw [HT.out]; exact hlt)
      have c0 := hc.c0
      have c1 := hc.c1
      have c2 := hc.c2
      have c3 := hc.c3
      have c4 := hc.c4
      have c5 := hc.c5
      have c6 := hc.c6
      have c7 := hc.c7
      clear hc
      have HY : Hid ((es.getD k pe0).client = a1 ∧ (numU es a1 k).1 < (es.getD k pe0).num → numU es a1 (k + 1) = ((es.getD k pe0).num, (es.getD k pe0).seq)) := numU_yes
      have HO : Hid (¬((es.getD k pe0).client = a1 ∧ (numU es a1 k).1 < (es.getD k pe0).num) → numU es a1 (k + 1) = numU es a1 k) := numU_no
      rw [HN.out] at HY HO
      generalize es.getD k pe0 = p at *
      have j1 : (k : Int) < (l : Int) := by omega
      have j0 : (0 : Int) ≤ (k : Int) := by omega
      by_cases h1 : p.client = a1
      · have d1 : (p.client == a1) = true := by simp [h1]
        by_cases h2 : m < p.num
        · have d2 : decide (m < p.num) = true := by simp [h2]
          have HN1 := Lib.hid (HY.out ⟨h1, h2⟩)
          clear HY HO HN h1
          go_wp2_with fail
          go_quiet (fail)
          go_wp2
          go_roundw
          case rel => exact ⟨k + 1, _, _, by omega, by go_num, rfl, rfl, HN1, HB.out.trans ((below_drewN _ _).mono HB.out.size)⟩
          case measure => simp [intOf]; omega
        · have d2 : decide (m < p.num) = false := by simp; omega
          have HN1 := Lib.hid (HO.out (fun h => h2 h.2))
          clear HY HO HN h1
          go_wp2
          go_roundw
          case rel => exact ⟨k + 1, _, _, by omega, by go_num, rfl, rfl, HN1, HB⟩
          case measure => simp [intOf]; omega
      · have d1 : (p.client == a1) = false := by simp [h1]
        have HN1 := Lib.hid (HO.out (fun h => h1 h.1))
        clear HY HO HN h1
        go_wp2
        go_roundw
        case rel => exact ⟨k + 1, _, _, by omega, by go_num, rfl, rfl, HN1, HB⟩
        case measure => simp [intOf]; omega
    · obtain rfl : k = l := by omega
      go_wp2_with fail
      refine (num_any a0 cap0 k es a1 _ HT.out (HE1.out.below HB.out)).mono ?_
      rw [HN.out]
      rintro e w3 ⟨rfl, hb3⟩
      have HB3 := Lib.hid (HB.out.trans (hb3.mono HB.out.size))
      clear hb3
      go_wp2_with fail
      refine (awake10 _).mono ?_
      rintro e w4 ⟨rfl, hb4⟩
      have HB4 := Lib.hid (HB3.out.trans (hb4.mono HB3.out.size))
      clear hb4
      have d1 : (m == m) = true := by simp
      have d2 : (q == q) = true := by simp
      go_wp2
      go_ret
      exact ⟨rfl, HB4.out⟩

end Go.Proofs.Ytdifnipjmnbojaa
