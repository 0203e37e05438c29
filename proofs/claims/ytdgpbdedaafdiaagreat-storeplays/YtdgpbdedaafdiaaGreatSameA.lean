/-
  The bytes of many entries, by the reference; SameAll of equal lists.
-/
import Derived.Test.YtdgpbdedaafdiaaGreatWalksY6
import Derived.Test.YtdgpbdedaafdiaaGreatWalksZ2
namespace Go.Proofs.YtdgpbdedaafdiaaGreat
open Go.RowKit







set_option maxRecDepth 100000 in
set_option maxHeartbeats 1000000 in
theorem many_big (a : Option Addr) (cap l : Nat) (es : List Pe) (w : World) (hl : es.length = l) (h : EnsAt w a cap es) (hm : l ≤ 1000) (he : ∀ e ∈ es, e.key.length ≤ 10000000 ∧ e.frag.length ≤ 10000000) (hel : (encL encE es).length ≤ 200000000) :
    Calls Tryz.prog 66 #[.slice a l cap] w (RetO w (encs [(l : Int)] ++ encL encE es)) := by
  have HE := Lib.hid h
  have HL := Lib.hid hl
  have HS := Lib.hid he
  have HEL := Lib.hid hel
  have HI := Lib.hid (ints_lit w [(l : Int)] #[.int .i64 (l : Int)] 1 w.heap.size rfl rfl rfl (by intro z hz; simp at hz; subst hz; exact ⟨by omega, by omega⟩) (by unfold maxLen; omega))
  clear h hl he hel
  go_enter Tryz.func66, Tryz.ntmps66
  go_wp2_with fail
  refine (nums_own _ _ 1 _ _ rfl HI.out (by omega)).mono ?_
  rintro e w1 ⟨g1, c1, rfl, ho1, hb1⟩
  have HO1 : Hid (OwnB w1 w.heap.size g1 c1 (encs [(l : Int)] ++ encL encE (es.take 0))) := by
    show OwnB _ _ _ _ _
    rw [List.take_zero, encL_nil, List.append_nil]
    exact ho1.base (by simp)
  have HB1 := Lib.hid ((below_one w _).trans (hb1.mono (by simp)))
  have HL1 : Hid ((encs [(l : Int)]).length ≤ 10) := Nat.le_trans (encs_len _) (by simp)
  clear ho1 hb1 HI
  generalize encs [(l : Int)] = A at *
  generalize hq : A.length = q at *
  have HQ := Lib.hid hq
  clear hq
  go_wp2
  go_loopw [3, 4] (fun v i ws => ∃ (k g c : Nat), k ≤ l ∧ i = .int .i64 k ∧ v = .slice (some ⟨g, 0, none⟩) (A ++ encL encE (es.take k)).length c ∧ Hid (OwnB ws w.heap.size g c (A ++ encL encE (es.take k))) ∧ Hid (Below w.heap.size w ws)) (fun _ i _ => l - (intOf i).toNat)
  case atStart => exact ⟨0, g1, c1, Nat.zero_le _, rfl, by rw [List.take_zero, encL_nil, List.append_nil, HQ.out], HO1, HB1⟩
  case round =>
    obtain ⟨k, g, c, hk, rfl, rfl, HO, HB⟩ := hrel
    by_cases hlt : k < l
    · have j0 : (0 : Int) ≤ (k : Int) := by omega
      have j1 : (k : Int) < (l : Int) := by omega
      obtain ⟨b, off, loc, cc, rfl, hc⟩ := (HE.out.below HB.out).el k (by rw [HL.out]; exact hlt)
      have HWF := Lib.hid (HE.out.wf _ (getD_mem es k pe0 (by rw [HL.out]; exact hlt)))
      have HSL := Lib.hid (HS.out _ (getD_mem es k pe0 (by rw [HL.out]; exact hlt)))
      have HN : Hid (A ++ encL encE (es.take (k + 1)) = (A ++ encL encE (es.take k)) ++ encE (es.getD k pe0)) := by
        show _ = _
        rw [encL_snoc encE es pe0 k (by rw [HL.out]; exact hlt), List.append_assoc]
      have HLT : Hid ((A ++ encL encE (es.take k)).length ≤ 210000000) := by
        have h1 := encL_take encE es k
        have h2 := HEL.out
        have h3 := HQ.out
        have h4 := HL1.out
        show _ ≤ _
        rw [List.length_append]
        omega
      have c0 := hc.c0
      have c1 := hc.c1
      have c2 := hc.c2
      have c3 := hc.c3
      have c4 := hc.c4
      have c5 := hc.c5
      have c6 := hc.c6
      have c7 := hc.c7
      have HSF := Lib.hid hc.seen
      clear hc
      generalize es.getD k pe0 = p at *
      generalize hqa : (A ++ encL encE (es.take k)).length = qa at *
      have HQA := Lib.hid hqa
      clear hqa
      go_wp2_with fail
      refine (one_own p loc cc _ HWF.out (by have := HSL.out; omega) (by have := HSL.out; omega) HSF.out).mono ?_
      rintro e w7 ⟨g7, c7', rfl, ho7, hb7⟩
      have HB7 := Lib.hid (HB.out.trans (hb7.mono HB.out.size))
      have HO7 := Lib.hid (HO.out.chg (gs := []) (Chg.of_below hb7) (by simp))
      have HS7 := Lib.hid ho7.seenAt
      have hgl := HO.out.lt.1
      have HL7 : Hid ((encE p).length ≤ 20000080) := by have := encE_len p; have := HSL.out; show _ ≤ _; omega
      clear ho7 hb7
      generalize hq7 : (encE p).length = q7 at *
      have HQ7 := Lib.hid hq7
      clear hq7
      go_wp2_with (at_builtin; refine wpList_appB rfl (.tmp 15) (.tmp 20) rfl w.heap.size g c (A ++ encL encE (es.take k)) (encE p) (by rw [HQA.out]; rfl) HO7.out _ _ (by rw [HQ7.out]; rfl) HS7.out (by have := HLT.out; have := HL7.out; have := HQ7.out; have := HQA.out; omega) HB7.out.size ?_; intro g8 c8 w8 ho8 chg8 hg8; rw [← HN.out] at ho8 ⊢)
      have HB8 := Lib.hid (chg8.below HB7.out HB7.out.size (by simp; omega))
      have HO8 := Lib.hid ho8
      clear ho8 chg8 hg8
      go_roundw
      case rel => exact ⟨k + 1, g8, c8, by omega, by go_num, by rw [List.length_append], HO8, HB8⟩
      case measure => simp [intOf]; omega
    · obtain rfl : k = l := by omega
      have HT : Hid (es.take k = es) := List.take_of_length_le (by rw [HL.out]; omega)
      rw [HT.out] at HO ⊢
      have HF : Hid (RetO w (A ++ encL encE es) (.returned (.slice (some ⟨g, 0, none⟩) (A ++ encL encE es).length c)) wr) := ⟨g, c, rfl, HO.out, HB.out⟩
      generalize (A ++ encL encE es).length = q at *
      go_wp2
      go_ret
      exact HF.out

theorem encL_big (es : List Pe) (he : ∀ e ∈ es, e.key.length ≤ 1048576 ∧ e.frag.length ≤ 1048576) : (encL encE es).length ≤ 2097232 * es.length := by
  induction es with
  | nil => simp [encL_nil]
  | cons e es ih =>
    have h1 := encE_len e
    have h2 := he e (List.mem_cons_self ..)
    have h3 := ih (fun x hx => he x (List.mem_cons_of_mem _ hx))
    show (encE e ++ encL encE es).length ≤ _
    rw [List.length_append, List.length_cons]
    omega

/-! x[:l] of entries. -/

theorem slice_toE (a : Option Addr) (q c l : Nat) (h : l ≤ c) (w : World) : (Instr.slice 33 (.slice a q c) none (some (.int .i64 (l : Int))) none).run Tryz.prog w = .ok (.slice a l c) w := by
  rw [run_slice_h w 33 a q c (by kernel_rfl) .i64 (l : Int) (by omega) (by omega)]
  have hs : (sizeOf (Tryz.prog.elem 33)).run Tryz.prog w = .ok 8 w := by kernel_rfl
  rw [hs]
  rcases a with _ | ⟨b, off, p⟩
  · simp [Result.andThen, sliced]
  · rcases p with _ | p <;> simp [Result.andThen, sliced, Addr.add]

theorem slice_toE' (a : Option Addr) (q c l : Nat) (h : l ≤ c) (w : World) : (Instr.sliceAt 33 (.slice a q c) none (some (.int .i64 (l : Int))) none).run Tryz.prog w = .ok (.slice a l c) w := by
  rw [run_sliceAt_slice w 33 _ _ _ _ (by kernel_rfl)]
  exact slice_toE a q c l h w

theorem EnsAt.take {w : World} {a : Option Addr} {cap : Nat} {es : List Pe} (h : EnsAt w a cap es) (n : Nat) : EnsAt w a cap (es.take n) :=
  ⟨Nat.le_trans (by rw [List.length_take]; omega) h.le, h.max, fun i hi => by
    rw [List.length_take] at hi
    obtain ⟨b, off, loc, c, e, he⟩ := h.el i (by omega)
    have e1 : (es.take n).getD i pe0 = es.getD i pe0 := by
      rw [List.getD_eq_getElem?_getD, List.getD_eq_getElem?_getD, List.getElem?_take_of_lt (by omega)]
    rw [e1]
    exact ⟨b, off, loc, c, e, he⟩, fun e he => h.wf e (List.mem_of_mem_take he)⟩

end Go.Proofs.YtdgpbdedaafdiaaGreat
