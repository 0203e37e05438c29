/-
  What a store tells of itself, and what none does.
-/
import Derived.Test.YtdgpbdedaafdiaaWalksO2
import Derived.Deep.DeepCutAuto
namespace Go.Proofs.Ytdgpbdedaafdiaa
open Go.RowKit






/-- The store at v, or an empty one in place of none. -/
structure SomeV (v : Value) (w : World) (bp : Value) (s : Ss) (L : Lay) : Prop where
  call : ∀ w1, Below w.heap.size w w1 → Calls Try.prog 29 #[v] w1 fun e w2 => (∃ SB, e = .returned (.pointer (some ⟨SB, 0, none⟩)) ∧ Bx w2 SB 61 (L.cellsB bp s)) ∧ Below w1.heap.size w1 w2
  mem : IntsAt w L.ma L.mc s.now.mem
  ents : EnsAt w L.na L.nc s.now.ents

theorem SomeV.below {v : Value} {w w' : World} {bp : Value} {s : Ss} {L : Lay} (h : SomeV v w bp s L) (hb : Below w.heap.size w w') : SomeV v w' bp s L :=
  ⟨fun w1 h1 => h.call w1 (hb.trans (h1.mono hb.size)), h.mem.below hb, h.ents.below hb⟩

theorem stSome_any (SB : Nat) (w : World) : Calls Try.prog 29 #[.pointer (some ⟨SB, 0, none⟩)] w fun e w' => e = .returned (.pointer (some ⟨SB, 0, none⟩)) ∧ w = w' := by
  go_enter Try.func29, Try.ntmps29
  go_wp2
  go_ret
  exact ⟨rfl, rfl⟩

def lay0 : Lay := ⟨0, none, none, [], none, 0, none, 0, none, 0, none, 0⟩

set_option maxRecDepth 100000 in
theorem stSome_nil (w : World) : Calls Try.prog 29 #[.pointer none] w fun e w2 => (∃ SB, e = .returned (.pointer (some ⟨SB, 0, none⟩)) ∧ Bx w2 SB 61 (lay0.cellsB (.pointer none) ss0)) ∧ Below w.heap.size w w2 := by
  have HX : Hid (Bx (w.alloc (.cells (lay0.cellsB (.pointer none) ss0) 61)) w.heap.size 61 (lay0.cellsB (.pointer none) ss0)) := bx_new8 _ _ _
  go_enter Try.func29, Try.ntmps29
  go_wp2
  go_ret
  exact ⟨⟨w.heap.size, rfl, HX.out⟩, below_one _ _⟩

theorem SoX.someV {w : World} {base SB R : Nat} {d : DS} {cs : List (List Nat)} {s : Ss} {L : Lay} (h : SoX w base SB R d cs s L) : SomeV (.pointer (some ⟨SB, 0, none⟩)) w (.pointer (some ⟨L.RB, 0, none⟩)) s L :=
  ⟨fun w1 hb => (stSome_any SB w1).mono fun _ _ ⟨h1, h2⟩ => by subst h2; exact ⟨⟨SB, h1, h.box.chg (gs := []) (Chg.of_below hb) (by simp)⟩, Below.refl _ _⟩, h.mem.now, h.own.ens⟩

theorem someV_nil (w : World) : SomeV (.pointer none) w (.pointer none) ss0 lay0 := ⟨fun w1 _ => stSome_nil w1, IntsAt.nil (Nat.zero_le _), EnsAt.nil (Nat.zero_le _)⟩


section
variable {v : Value} {bp : Value} {s : Ss} {L : Lay}

set_option maxRecDepth 100000 in
theorem stPos_any (w : World) (h : SomeV v w bp s L) : Calls Try.prog 21 #[v] w fun e w' => e = .returned (.int .i64 s.now.pos) ∧ Below w.heap.size w w' := by
  go_enter Try.func21, Try.ntmps21
  go_wp2_with fail
  refine (h.call _ (Below.refl _ _)).mono ?_
  rintro e w1 ⟨⟨SB, rfl, hx⟩, hb⟩
  have HB := Lib.hid hb
  have c := hx.cell 4 (.int .i64 s.now.pos) rfl
  clear hx hb
  go_wp2
  go_ret
  exact ⟨rfl, HB.out⟩

set_option maxRecDepth 100000 in
theorem stBase_any (w : World) (h : SomeV v w bp s L) : Calls Try.prog 22 #[v] w fun e w' => e = .returned (.int .i64 s.now.last) ∧ Below w.heap.size w w' := by
  go_enter Try.func22, Try.ntmps22
  go_wp2_with fail
  refine (h.call _ (Below.refl _ _)).mono ?_
  rintro e w1 ⟨⟨SB, rfl, hx⟩, hb⟩
  have HB := Lib.hid hb
  have c := hx.cell 5 (.int .i64 s.now.last) rfl
  clear hx hb
  go_wp2
  go_ret
  exact ⟨rfl, HB.out⟩

set_option maxRecDepth 100000 in
theorem stSealed_any (w : World) (h : SomeV v w bp s L) : Calls Try.prog 10 #[v] w fun e w' => e = .returned (.bool s.sealed) ∧ Below w.heap.size w w' := by
  go_enter Try.func10, Try.ntmps10
  go_wp2_with fail
  refine (h.call _ (Below.refl _ _)).mono ?_
  rintro e w1 ⟨⟨SB, rfl, hx⟩, hb⟩
  have HB := Lib.hid hb
  have c := hx.cell 7 (.bool s.sealed) rfl
  clear hx hb
  go_wp2
  go_ret
  exact ⟨rfl, HB.out⟩

set_option maxRecDepth 100000 in
theorem stStaged_any (w : World) (h : SomeV v w bp s L) : Calls Try.prog 23 #[v] w fun e w' => e = .returned (.int .i64 s.staged.epoch) ∧ Below w.heap.size w w' := by
  go_enter Try.func23, Try.ntmps23
  go_wp2_with fail
  refine (h.call _ (Below.refl _ _)).mono ?_
  rintro e w1 ⟨⟨SB, rfl, hx⟩, hb⟩
  have HB := Lib.hid hb
  have c := hx.cell 9 (.int .i64 s.staged.epoch) rfl
  clear hx hb
  go_wp2
  go_ret
  exact ⟨rfl, HB.out⟩

set_option maxRecDepth 100000 in
theorem stLast_any (w : World) (h : SomeV v w bp s L) (hm : s.now.ents.length ≤ 1000000) : Calls Try.prog 11 #[v] w fun e w' => e = .returned (.int .i64 (lastS s)) ∧ Below w.heap.size w w' := by
  obtain ⟨n, hn⟩ : ∃ n, s.now.ents.length = n := ⟨_, rfl⟩
  have HN := Lib.hid hn
  rw [hn] at hm
  go_enter Try.func11, Try.ntmps11
  go_wp2_with fail
  refine (stBase_any _ h).mono ?_
  rintro e w1 ⟨rfl, hb1⟩
  have HB1 := Lib.hid hb1
  clear hb1
  go_wp2_with fail
  refine (h.call _ HB1.out).mono ?_
  rintro e w2 ⟨⟨SB, rfl, hx⟩, hb2⟩
  have HB2 := Lib.hid (HB1.out.trans (hb2.mono HB1.out.size))
  have c := hx.cell 6 (.slice L.na n L.nc) (by rw [← hn]; rfl)
  have HE := Lib.hid (h.ents.below HB2.out)
  clear hx hb2 hn
  by_cases h0 : n = 0
  · subst h0
    have HZ : Hid (lastS s = s.now.last) := lastS_none (List.length_eq_zero_iff.mp HN.out)
    go_wp2
    go_ret
    exact ⟨by rw [HZ.out]; rfl, HB2.out⟩
  · have HZ : Hid (lastS s = if s.now.last < (s.now.ents.getD (n - 1) pe0).seq then (s.now.ents.getD (n - 1) pe0).seq else s.now.last) := by
      have := lastS_some (s := s) (fun e => h0 (by rw [← HN.out, e]; rfl))
      rw [HN.out] at this
      exact this
    obtain ⟨m, rfl⟩ : ∃ m, n = m + 1 := ⟨n - 1, by omega⟩
    rw [Nat.add_sub_cancel] at HZ
    obtain ⟨b, off, loc, c2, e, hc⟩ := HE.out.el m (by rw [HN.out]; omega)
    have c0 := hc.c0
    generalize (s.now.ents.getD m pe0).seq = q at *
    rw [e] at c
    have p1 : decide (((m + 1 : Nat) : Int) > 0) = true := decide_eq_true (by omega)
    have p2 : (((m + 1 : Nat) : Int) - 1) = (m : Int) := by omega
    have p3 : (0 : Int) ≤ (m : Int) := by omega
    have p4 : (m : Int) < ((m + 1 : Nat) : Int) := by omega
    clear hc HE h
    go_wp2
    all_goals go_ret
    · exact ⟨by rw [HZ.out, if_pos h]; rfl, HB2.out⟩
    · exact ⟨by rw [HZ.out, if_neg (by omega)]; rfl, HB2.out⟩

set_option maxRecDepth 100000 in
theorem stConf_any (w : World) (h : SomeV v w bp s L) (hm : s.now.mem.length ≤ 1000000) : Calls Try.prog 8 #[v] w fun e w' =>
    ∃ a c, e = .returned (.agg #[.int .i64 s.now.epoch, .slice a s.now.mem.length c]) ∧ Rob w.heap.size w'.heap.size w' (fun x => IntsAt x a c s.now.mem) ∧ Below w.heap.size w w' := by
  obtain ⟨n, hn⟩ : ∃ n, s.now.mem.length = n := ⟨_, rfl⟩
  have HN := Lib.hid hn
  rw [hn] at hm ⊢
  have HZ0 : Hid (Bx (w.alloc (.cells #[.int .i64 0, .slice none 0 0] 35)) w.heap.size 35 #[.int .i64 0, .slice none 0 0]) := bx_new8 _ _ _
  have HE0 := Lib.hid (below_one w (.cells #[.int .i64 0, .slice none 0 0] 35))
  have HQ : Hid ((w.alloc (.cells #[.int .i64 0, .slice none 0 0] 35)).heap.size = w.heap.size + 1) := by show _ = _; simp
  go_enter Try.func8, Try.ntmps8
  go_wp2_with fail
  generalize (w.alloc (.cells #[.int .i64 0, .slice none 0 0] 35)) = w0 at *
  refine (h.call _ HE0.out).mono ?_
  rintro e w1 ⟨⟨SB, rfl, hx⟩, hb1⟩
  have HB1 := Lib.hid (HE0.out.trans (hb1.mono HE0.out.size))
  have HZ1 := Lib.hid (HZ0.out.chg (gs := []) (Chg.of_below hb1) (by simp))
  have HQ1 := hb1.size
  have c2 := hx.cell 2 (.int .i64 s.now.epoch) rfl
  have c3 := hx.cell 3 (.slice L.ma n L.mc) (by rw [← hn]; rfl)
  have HM := Lib.hid (h.mem.below HB1.out)
  clear hx hb1 hn HZ0
  go_wp2_with fail
  refine (copyConf_any s.now.epoch L.ma L.mc n s.now.mem _ HN.out hm HM.out).mono ?_
  rintro e w2 ⟨a2, k2, rfl, hr2, hb2⟩
  have HB2 := Lib.hid (HB1.out.trans (hb2.mono HB1.out.size))
  have HZ2 := Lib.hid (HZ1.out.chg (gs := []) (Chg.of_below hb2) (by simp))
  have HR2 := Lib.hid hr2
  have HQ2 := hb2.size
  have y0 := HZ2.out.cell 0 (.int .i64 0) rfl
  have y1 := HZ2.out.cell 1 (.slice none 0 0) rfl
  have g0 := HZ2.out.free 0
  have g1 := HZ2.out.free 1
  clear hr2 hb2 c2 c3 h
  go_wp2_with fail
  have HC : Hid (Chg [w.heap.size] w2 ((w2.setCell ⟨w.heap.size, 0, none⟩ (.int .i64 s.now.epoch)).setCell ⟨w.heap.size, 1, none⟩ (.slice a2 n k2))) := (chg_set1 w2 w.heap.size 0 _).trans (chg_set1 _ w.heap.size 1 _)
  have HFX := Lib.hid ((HZ2.out.set (C' := #[.int .i64 s.now.epoch, .slice none 0 0]) 0 (.int .i64 s.now.epoch) (by simp)).set (C' := #[.int .i64 s.now.epoch, .slice a2 n k2]) 1 (.slice a2 n k2) (by simp))
  have HSZ : Hid (w2.heap.size = ((w2.setCell ⟨w.heap.size, 0, none⟩ (.int .i64 s.now.epoch)).setCell ⟨w.heap.size, 1, none⟩ (.slice a2 n k2)).heap.size) := by show _ = _; simp
  generalize ((w2.setCell ⟨w.heap.size, 0, none⟩ (.int .i64 s.now.epoch)).setCell ⟨w.heap.size, 1, none⟩ (.slice a2 n k2)) = wf at *
  have q0 := HFX.out.cell 0 (.int .i64 s.now.epoch) rfl
  have q1 := HFX.out.cell 1 (.slice a2 n k2) rfl
  have hq := HQ.out
  refine bodyPost_ret (v := .agg #[.int .i64 s.now.epoch, .slice a2 n k2]) (by simp [results, Try.results8, go_sem, q0, q1]) rfl ?_
  exact ⟨a2, k2, rfl, (HR2.out.chg HC.out (fun g hg => by simp at hg; omega)).wide (by omega) (Nat.le_of_eq HSZ.out), HC.out.below HB2.out HB2.out.size (by simp)⟩

set_option maxRecDepth 100000 in
theorem stEntries_any (w : World) (h : SomeV v w bp s L) (hm : s.now.ents.length ≤ 1000000) (hf : ∀ e ∈ s.now.ents, e.frag.length ≤ 1000000000) : Calls Try.prog 9 #[v] w (RetCe w s.now.ents) := by
  obtain ⟨n, hn⟩ : ∃ n, s.now.ents.length = n := ⟨_, rfl⟩
  have HN := Lib.hid hn
  have HF := Lib.hid hf
  rw [hn] at hm
  clear hf
  go_enter Try.func9, Try.ntmps9
  go_wp2_with fail
  refine (h.call _ (Below.refl _ _)).mono ?_
  rintro e w1 ⟨⟨SB, rfl, hx⟩, hb1⟩
  have HB1 := Lib.hid hb1
  have c6 := hx.cell 6 (.slice L.na n L.nc) (by rw [← hn]; rfl)
  have HE := Lib.hid (h.ents.below HB1.out)
  clear hx hb1 hn
  go_wp2_with fail
  refine (copyEnts_any L.na L.nc n s.now.ents _ HN.out hm HE.out HF.out).mono ?_
  rintro e w2 ⟨a2, k2, rfl, hr2, hb2⟩
  rw [HN.out]
  have HR : Hid (RetCe w s.now.ents (.returned (.slice a2 n k2)) w2) := by
    obtain ⟨zs, k1, k3, k4, k5⟩ := hr2
    have hsz := HB1.out.size
    exact ⟨a2, k2, by rw [HN.out], ⟨zs, k1, ⟨owns_base k3.own hsz, k3.seen, fun x hx b o e => ⟨Nat.le_trans hsz (k3.off x hx b o e).1, (k3.off x hx b o e).2⟩, k3.wf⟩, k4, k5⟩, HB1.out.trans (hb2.mono HB1.out.size)⟩
  clear hr2 hb2
  go_wp2
  go_ret
  exact HR.out

end

end Go.Proofs.Ytdgpbdedaafdiaa
