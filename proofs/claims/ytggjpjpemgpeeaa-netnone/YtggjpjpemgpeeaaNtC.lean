/-
  net: Cut, Heal.
-/
import Derived.Test.YtggjpjpemgpeeaaNtY
import Derived.Carry
namespace Go.Proofs.Ytggjpjpemgpeeaa
open Go.RowKit

theorem lkd_small {a b : Int} (h : lkd a b = true) : SmallP (lkP a b) ∧ BigP (lkP a b) ∧ (lkP a b).1 < (lkP a b).2 := by
  unfold lkd win2 at h
  simp only [Bool.and_eq_true, decide_eq_true_eq] at h
  obtain ⟨⟨hne, h1, h2⟩, h3, h4⟩ := h
  unfold SmallP BigP lkP I64
  refine ⟨⟨⟨?_, ?_⟩, ⟨?_, ?_⟩⟩, ⟨⟨?_, ?_⟩, ⟨?_, ?_⟩⟩, ?_⟩ <;> simp only <;> omega

/-- n.cut[k] = struct{}{}. -/
theorem wpList_putC {ops : Array Oper} {rest : List Oper} {o : Oper} {a : Act} {Q : Exit → Act → World → Prop} {w : World} (hgd : o.guard = none) (m x v : Operand)
    (ho : o.op = Op.mapUpdate 97 m x v) (b : Nat) (ks : List (Int × Int)) (hm : a.eval m = .map (some b)) (hown : SetC w b ks) (p : Int × Int) (hp : BigP p) (hs : SmallP p) (hn : p ∉ ks) (hx : a.eval x = lkV p) (hv : a.eval v = .agg #[])
    (h : ∀ w', SetC w' b (ks ++ [p]) → Chg [b] w w' → wpList Try.prog ops Q rest (a.put o.dst undef) w') : wpList Try.prog ops Q (o :: rest) a w := by
  obtain ⟨w', hrun, h1, h2⟩ := run_putC (P := Try.prog) (w := w) Try.underlying97 Try.underlying105 b ks hown p hp hs hn
  refine wpList_plain hgd fun K hK => ?_
  unfold Oper.wp
  simp [execOp, ho, hm, hx, hv, hrun, Result.andThen]
  exact hK _ _ (h w' h1 h2)

/-- delete(n.cut, k). -/
theorem wpList_dropC {ops : Array Oper} {rest : List Oper} {o : Oper} {a : Act} {Q : Exit → Act → World → Prop} {w : World} (hgd : o.guard = none) (m x : Operand)
    (ho : o.op = .call { callee := .builtin .delete, args := #[m, x], argTypes := #[97, 105] }) (b : Nat) (ks : List (Int × Int)) (hm : a.eval m = .map (some b)) (hown : SetC w b ks) (p : Int × Int) (hp : BigP p) (hn : p ∈ ks) (hx : a.eval x = lkV p)
    (h : ∀ w', SetC w' b (ks.erase p) → Chg [b] w w' → wpList Try.prog ops Q rest (a.put o.dst (.tuple #[])) w') : wpList Try.prog ops Q (o :: rest) a w := by
  obtain ⟨w', hrun, h1, h2⟩ := run_dropC (P := Try.prog) (w := w) Try.underlying97 Try.underlying105 o.type b ks hown p hp hn
  refine wpList_plain hgd fun K hK => ?_
  unfold Oper.wp
  simp [execOp, ho, resolve, invoke, builtin, hm, hx, hrun, Result.andThen]
  exact hK _ _ (h w' h1 h2)

theorem eql_mapN (w : World) (m : Option Nat) : (binOp .eql 97 (.map m) (.map none)).run Try.prog w = .ok (.bool m.isNone) w := by
  simp [binOp, run_equal_map_nil w _ _ _ m Try.underlying97]

theorem cut_nil (a b : Int) (w : World) : Calls Try.prog 28 #[.pointer none, .int .i64 a, .int .i64 b] w fun e w' => e = .returned (.bool false) ∧ w = w' := by
  go_enter Try.func28, Try.ntmps28
  go_wp2
  go_ret
  exact ⟨rfl, rfl⟩

theorem cut_no (R : Nat) (a b : Int) (w : World) (hno : lkd a b = false) : Calls Try.prog 28 #[.pointer (some ⟨R, 0, none⟩), .int .i64 a, .int .i64 b] w fun e w' => e = .returned (.bool false) ∧ w = w' := by
  have HN := Lib.hid hno
  clear hno
  go_enter Try.func28, Try.ntmps28
  go_wp2_with fail
  refine (linked_any a b _).mono ?_
  rw [HN.out]
  rintro e w' ⟨rfl, rfl⟩
  go_wp2
  go_ret
  exact ⟨rfl, rfl⟩

theorem cut_had {w : World} {base R : Nat} {N : List Nat} {ms : List Pm} {ks : List (Int × Int)} (h : Nt w base R N ms ks) (a b : Int) (hy : lkd a b = true) (hin : lkP a b ∈ ks) :
    Calls Try.prog 28 #[.pointer (some ⟨R, 0, none⟩), .int .i64 a, .int .i64 b] w fun e w' => e = .returned (.bool false) ∧ Below w.heap.size w w' := by
  obtain ⟨ga, o, hA⟩ := h
  have HA := Lib.hid hA
  have HY := Lib.hid hy
  have HI := Lib.hid hin
  have HS := Lib.hid (lkd_small hy)
  clear hA hy hin
  go_enter Try.func28, Try.ntmps28
  go_wp2_with fail
  refine (linked_any a b _).mono ?_
  rw [HY.out]
  rintro e w' ⟨rfl, rfl⟩
  go_wp2_with fail
  refine (link_any a b _).mono ?_
  rintro e w' ⟨rfl, rfl⟩
  go_wp2_with fail
  refine (isCut_any HA.out (lkP a b) HS.out.2.1).mono ?_
  rw [decide_eq_true HI.out]
  rintro e w1 ⟨rfl, hb⟩
  have HB := Lib.hid hb
  clear hb
  go_wp2
  go_ret
  exact ⟨rfl, HB.out⟩


set_option maxRecDepth 100000 in
set_option maxHeartbeats 1000000 in
theorem cut_new {w : World} {base R : Nat} {N : List Nat} {ms : List Pm} {ks : List (Int × Int)} (h : Nt w base R N ms ks) (a b : Int) (hy : lkd a b = true) (hin : lkP a b ∉ ks) :
    Calls Try.prog 28 #[.pointer (some ⟨R, 0, none⟩), .int .i64 a, .int .i64 b] w (NtP w base R N ms (ks ++ [lkP a b]) (.bool true)) := by
  obtain ⟨ga, o, hA⟩ := h
  have HA := Lib.hid hA
  have HY := Lib.hid hy
  have HI := Lib.hid hin
  have HS := Lib.hid (lkd_small hy)
  clear hA hy hin
  go_enter Try.func28, Try.ntmps28
  go_wp2_with fail
  refine (linked_any a b _).mono ?_
  rw [HY.out]
  rintro e w' ⟨rfl, rfl⟩
  go_wp2_with fail
  refine (link_any a b _).mono ?_
  rintro e w' ⟨rfl, rfl⟩
  go_wp2_with fail
  refine (isCut_any HA.out (lkP a b) HS.out.2.1).mono ?_
  rw [decide_eq_false HI.out]
  rintro e w1 ⟨rfl, hb⟩
  have HA1 := Lib.hid (HA.out.below hb)
  have HM1 := Lib.hid (Mv.of_below N hb)
  clear hb HA
  have hc1 := HA1.out.c1
  have hf1 := HA1.out.free 1
  have hRlt := (HA1.out.nLt R HA1.out.inR).2
  cases o with
  | none =>
    have hks : ks = [] := HA1.out.links
    subst hks
    have hM := HA1.out.map
    rw [World.setCell_alloc_past (w := w1) (.map #[] 0) R 1 (.map (some w1.heap.size)) hRlt] at hM
    have HA2 := Lib.hid hM.1
    have HM2 := Lib.hid (HM1.out.trans hM.2)
    clear hM
    have hmn := eql_mapN w1 none
    have hmk := @run_makeMap Try.prog
    go_wp2
    clear hc1 hf1 hmn hmk
    generalize ((w1.setCell ⟨R, 1, none⟩ (.map (some w1.heap.size))).alloc (.map #[] 0)) = w2 at *
    generalize w1.heap.size = c at *
    have hc1 := HA2.out.c1
    obtain ⟨v, hv⟩ : ∃ v, v = lkV (lkP a b) := ⟨_, rfl⟩
    have HV := Lib.hid hv
    have HLK : Hid (∀ x : World, Calls Try.prog 71 #[.int .i64 a, .int .i64 b] x fun e w' => e = .returned v ∧ x = w') := by intro x; rw [HV.out]; exact link_any a b x
    clear hv
    refine wp_region_quiet_tail 8 (by kernel_rfl) (by kernel_rfl) ?_
    simp only [List.take_succ_cons, List.take_zero, List.drop_succ_cons, List.drop_zero]
    repeat (go_big_quiet_step ((go_at_call 71; exact quiet_left' (HLK.out _))))
    refine wpQuiet_nil ?_
    intro _ hw'
    obtain ⟨nq, hw''⟩ := hw'
    subst hw''
    go_wp2_with (refine wpList_putC rfl _ _ _ rfl _ _ rfl (HA2.out.links.chg (gs := []) ((Chg.refl _ _).drewN nq) (by simp)) (lkP a b) HS.out.2.1 HS.out.1 HI.out HV.out rfl ?_; intro wf hsf hcf)
    go_ret
    have hfin := HA2.out.relink (((Chg.refl _ _).drewN nq).trans hcf) hsf (fun p hp => by rcases List.mem_append.mp hp with hp | hp; exact HA2.out.up p hp; rw [List.mem_singleton.mp hp]; exact HS.out.2.2)
    exact ⟨rfl, _, ⟨_, _, hfin.1⟩, HM2.out.trans hfin.2⟩
  | some c =>
    have hmn := eql_mapN w1 (some c)
    go_wp2
    clear hf1 hc1 hmn
    have hc1 := HA1.out.c1
    obtain ⟨v, hv⟩ : ∃ v, v = lkV (lkP a b) := ⟨_, rfl⟩
    have HV := Lib.hid hv
    have HLK : Hid (∀ x : World, Calls Try.prog 71 #[.int .i64 a, .int .i64 b] x fun e w' => e = .returned v ∧ x = w') := by intro x; rw [HV.out]; exact link_any a b x
    clear hv
    refine wp_region_quiet_tail 8 (by kernel_rfl) (by kernel_rfl) ?_
    simp only [List.take_succ_cons, List.take_zero, List.drop_succ_cons, List.drop_zero]
    repeat (go_big_quiet_step ((go_at_call 71; exact quiet_left' (HLK.out _))))
    refine wpQuiet_nil ?_
    intro _ hw'
    obtain ⟨nq, hw''⟩ := hw'
    subst hw''
    go_wp2_with (refine wpList_putC rfl _ _ _ rfl _ _ rfl (HA1.out.links.chg (gs := []) ((Chg.refl _ _).drewN nq) (by simp)) (lkP a b) HS.out.2.1 HS.out.1 HI.out HV.out rfl ?_; intro wf hsf hcf)
    go_ret
    have hfin := HA1.out.relink (((Chg.refl _ _).drewN nq).trans hcf) hsf (fun p hp => by rcases List.mem_append.mp hp with hp | hp; exact HA1.out.up p hp; rw [List.mem_singleton.mp hp]; exact HS.out.2.2)
    exact ⟨rfl, _, ⟨_, _, hfin.1⟩, HM1.out.trans hfin.2⟩

theorem heal_nil (a b : Int) (w : World) : Calls Try.prog 29 #[.pointer none, .int .i64 a, .int .i64 b] w fun e w' => e = .returned (.bool false) ∧ w = w' := by
  go_enter Try.func29, Try.ntmps29
  go_wp2
  go_ret
  exact ⟨rfl, rfl⟩

theorem heal_no {w : World} {base R : Nat} {N : List Nat} {ms : List Pm} {ks : List (Int × Int)} (h : Nt w base R N ms ks) (a b : Int) (ha : I64 a) (hb : I64 b) (hin : lkP a b ∉ ks) :
    Calls Try.prog 29 #[.pointer (some ⟨R, 0, none⟩), .int .i64 a, .int .i64 b] w fun e w' => e = .returned (.bool false) ∧ Below w.heap.size w w' := by
  obtain ⟨ga, o, hA⟩ := h
  have HA := Lib.hid hA
  have HI := Lib.hid hin
  have HS := Lib.hid (bigP_of ha hb)
  clear hA hin ha hb
  go_enter Try.func29, Try.ntmps29
  go_wp2_with fail
  refine (link_any a b _).mono ?_
  rintro e w' ⟨rfl, rfl⟩
  go_wp2_with fail
  refine (isCut_any HA.out (lkP a b) HS.out).mono ?_
  rw [decide_eq_false HI.out]
  rintro e w1 ⟨rfl, hb⟩
  have HB := Lib.hid hb
  clear hb
  go_wp2
  go_ret
  exact ⟨rfl, HB.out⟩

set_option maxRecDepth 100000 in
set_option maxHeartbeats 1000000 in
theorem heal_yes {w : World} {base R : Nat} {N : List Nat} {ms : List Pm} {ks : List (Int × Int)} (h : Nt w base R N ms ks) (a b : Int) (ha : I64 a) (hb : I64 b) (hin : lkP a b ∈ ks) :
    Calls Try.prog 29 #[.pointer (some ⟨R, 0, none⟩), .int .i64 a, .int .i64 b] w (NtP w base R N ms (ks.erase (lkP a b)) (.bool true)) := by
  obtain ⟨ga, o, hA⟩ := h
  have HA := Lib.hid hA
  have HI := Lib.hid hin
  have HS := Lib.hid (bigP_of ha hb)
  clear hA hin ha hb
  go_enter Try.func29, Try.ntmps29
  go_wp2_with fail
  refine (link_any a b _).mono ?_
  rintro e w' ⟨rfl, rfl⟩
  go_wp2_with fail
  refine (isCut_any HA.out (lkP a b) HS.out).mono ?_
  rw [decide_eq_true HI.out]
  rintro e w1 ⟨rfl, hb⟩
  have HA1 := Lib.hid (HA.out.below hb)
  have HM1 := Lib.hid (Mv.of_below N hb)
  clear hb HA
  cases o with
  | none =>
    have hks : ks = [] := HA1.out.links
    have := HI.out
    rw [hks] at this
    simp at this
  | some c =>
    go_wp2
    have hc1 := HA1.out.c1
    obtain ⟨v, hv⟩ : ∃ v, v = lkV (lkP a b) := ⟨_, rfl⟩
    have HV := Lib.hid hv
    have HLK : Hid (∀ x : World, Calls Try.prog 71 #[.int .i64 a, .int .i64 b] x fun e w' => e = .returned v ∧ x = w') := by intro x; rw [HV.out]; exact link_any a b x
    clear hv
    refine wp_region_quiet_tail 7 (by kernel_rfl) (by kernel_rfl) ?_
    simp only [List.take_succ_cons, List.take_zero, List.drop_succ_cons, List.drop_zero]
    repeat (go_big_quiet_step ((go_at_call 71; exact quiet_left' (HLK.out _))))
    refine wpQuiet_nil ?_
    intro _ hw'
    obtain ⟨nq, hw''⟩ := hw'
    subst hw''
    go_wp2_with (refine wpList_dropC rfl _ _ rfl _ _ rfl (HA1.out.links.chg (gs := []) ((Chg.refl _ _).drewN nq) (by simp)) (lkP a b) HS.out HI.out HV.out ?_; intro wf hsf hcf)
    go_ret
    have hfin := HA1.out.relink (((Chg.refl _ _).drewN nq).trans hcf) hsf (fun p hp => HA1.out.up p (List.mem_of_mem_erase hp))
    exact ⟨rfl, _, ⟨_, _, hfin.1⟩, HM1.out.trans hfin.2⟩

end Go.Proofs.Ytggjpjpemgpeeaa
