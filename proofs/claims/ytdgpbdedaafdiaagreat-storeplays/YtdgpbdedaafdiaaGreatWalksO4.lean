/-
  store: apply.
  store: write, add, renew.
-/
import Derived.Test.YtdgpbdedaafdiaaGreatWalksO1
import Derived.Deep.DeepCutAuto
namespace Go.Proofs.YtdgpbdedaafdiaaGreat
open Go.RowKit



theorem chg_own {w w' : World} {a : Option Addr} {n c : Nat} (h : w.grownBy w' (Value.ownBlock (.slice a n c))) : Chg (blk a) w w' := by
  rcases a with _ | ad
  · exact Chg.of_new h
  · exact Chg.of_grown h

section
variable {w w' : World} {base SB R : Nat} {d : DS} {cs : List (List Nat)} {s s' : Ss} {L L' : Lay}

/-- Its own cells have turned. -/
theorem SoX.put (h : SoX w base SB R d cs s L) (e1 : L'.RB = L.RB) (e2 : L'.a = L.a) (e3 : L'.ga = L.ga) (e4 : L'.F = L.F) (hb : Bx w' SB 60 (L'.cells s')) (hc : Chg [SB] w w')
    (own : Er w base (L'.M SB R) L'.na L'.nc s'.now.ents) (mem : Kp (L'.M SB R) w fun x => IntsAt x L'.ma L'.mc s'.now.mem) (stg : Kp (L'.M SB R) w fun x => RecAt x L'.xa L'.xc L'.ya L'.yc s'.staged)
    (hn : ∀ g ∈ blk L'.na, g ≠ SB ∧ g ∉ bkM L.RB R L.a L.ga ∧ g ∉ L.F) : SoX w' base SB R d cs s' L' := by
  have hS : ∀ g ∈ [SB], g ∈ L'.M SB R := fun g hg => Lay.mem.2 (.inl (by simpa using hg))
  have hm : Mv w w' (L'.M SB R) (L'.M SB R) := ⟨hc.mono hS, fun _ hg => .inl hg⟩
  refine ⟨?_, hb, own.go hc (fun g hg => .inl (hS g hg)) (fun g hg e => (hn g hg).1 (by simpa using e)) (fun _ hg => .inl hg), mem.mv hm, stg.mv hm, ?_, ?_, h.base, ?_⟩
  · rw [e1, e2, e3, e4]
    exact h.bk.apart hc fun g hg => by
      have : g = SB := by simpa using hg
      subst this
      exact ⟨h.nS.1, h.nS.2.2⟩
  · rw [e1, e2, e3, e4]
    exact ⟨h.nS.1, fun e => (hn SB e).1 rfl, h.nS.2.2⟩
  · rw [e1, e2, e3, e4]
    exact fun g hg => (hn g hg).2
  · rw [e4]
    exact fun g hg => Nat.lt_of_lt_of_le (h.fLt g hg) hc.size

/-- Entries have been appended to its own. -/
theorem SoX.grow {w2 : World} {va : Option Addr} {vc n k : Nat} {xs ys : List El} {es : List Pe} (h : SoX w base SB R d cs s L) (hx : xs.map (·.p) = s.now.ents) (hy : ys.map (·.p) = es) (hfx : ∀ x ∈ xs, Kp (L.M SB R) w fun z => SeenAt z x.loc x.cap x.p.frag)
    (hfy : ∀ x ∈ ys, Kp (L.M SB R) w fun z => SeenAt z x.loc x.cap x.p.frag) (hwy : ∀ e ∈ es, e.Wf) (hn : (s.now.ents ++ es).length = n) (ho : w2.ownsRow base 41 8 (.slice va n vc) n (evals xs ++ evals ys))
    (hg : w.grownBy w2 (Value.ownBlock (.slice L.na k L.nc))) (hat : ∀ g, Value.ownBlock (.slice va n vc) = some g → Value.ownBlock (.slice L.na k L.nc) = some g ∨ w.heap.size ≤ g) :
    SoX (w2.setCell ⟨SB, 6, none⟩ (.slice va n vc)) base SB R d cs { s with now := { s.now with ents := s.now.ents ++ es } } { L with na := va, nc := vc } ∧ Chg (L.M SB R) w (w2.setCell ⟨SB, 6, none⟩ (.slice va n vc)) ∧ ∀ g ∈ ({ L with na := va, nc := vc } : Lay).M SB R, g ∈ L.M SB R ∨ w.heap.size ≤ g := by
  have hva : ∀ g ∈ blk va, g ∈ blk L.na ∨ w.heap.size ≤ g := fun g hg' => by
    rcases hat g (blk_own hg') with h1 | h1
    · exact .inl (own_blk h1)
    · exact .inr h1
  have hc1 := chg_own hg
  have hc : Chg (SB :: blk L.na) w (w2.setCell ⟨SB, 6, none⟩ (.slice va n vc)) := (hc1.mono fun g hg' => List.mem_cons_of_mem _ hg').trans ((chg_set1 w2 SB 6 _).mono (by simp))
  have hsub : ∀ g ∈ SB :: blk L.na, g ∈ L.M SB R := fun g hg' => by
    rcases List.mem_cons.mp hg' with e | e
    · exact Lay.mem.2 (.inl e)
    · exact Lay.mem.2 (.inr (.inr e))
  have hM : ∀ g ∈ ({ L with na := va, nc := vc } : Lay).M SB R, g ∈ L.M SB R ∨ w.heap.size ≤ g := fun g hg' => by
    rcases Lay.mem.1 hg' with e | e | e
    · exact .inl (Lay.mem.2 (.inl e))
    · exact .inl (Lay.mem.2 (.inr (.inl e)))
    · rcases hva g e with e | e
      · exact .inl (Lay.mem.2 (.inr (.inr e)))
      · exact .inr e
  have hmv : Mv w (w2.setCell ⟨SB, 6, none⟩ (.slice va n vc)) (L.M SB R) (({ L with na := va, nc := vc } : Lay).M SB R) := ⟨hc.mono hsub, hM⟩
  have hSv : SB ∉ blk va := fun e => by
    rcases hva SB e with e | e
    · exact h.nS.2.1 e
    · have := bx_lt h.box; omega
  refine ⟨⟨?_, ?_, ⟨⟨xs ++ ys, ?_, ?_, fun x hx' => ?_⟩, fun e he => ?_⟩, h.mem.mv hmv, h.stg.mv hmv, ⟨h.nS.1, hSv, h.nS.2.2⟩, fun g hg' => ?_, h.base, fun g hg' => Nat.lt_of_lt_of_le (h.fLt g hg') hc.size⟩, hc.mono hsub, hM⟩
  · refine h.bk.apart hc fun g hg' => ?_
    rcases List.mem_cons.mp hg' with e | e
    · rw [e]; exact ⟨h.nS.1, h.nS.2.2⟩
    · exact h.nN g e
  · refine (h.box.chg hc1 h.nS.2.1).set 6 _ ?_
    show (L.cells s).setIfInBounds 6 (.slice va n vc) = _
    rw [← hn]
    rfl
  · rw [List.map_append, hx, hy]
  · have hl : (xs ++ ys).length = n := by rw [← hn, ← hx, ← hy, ← List.map_append, List.length_map]
    rw [hl, evals_app]
    exact (chg_set1 w2 SB 6 _).owns ho fun g e => by
      have := hSv
      intro e'
      have : g = SB := by simpa using e'
      subst this
      exact hSv (own_blk e)
  · rcases List.mem_append.mp hx' with h1 | h1
    · exact (hfx x h1).mv hmv
    · exact (hfy x h1).mv hmv
  · rcases List.mem_append.mp he with h1 | h1
    · have := h.own.wf; exact this e h1
    · exact hwy e h1
  · rcases hva g hg' with e | e
    · exact h.nN g e
    · refine ⟨fun e' => ?_, fun e' => ?_⟩
      · have := (h.bk.mLt e').2; omega
      · have := h.fLt g e'; omega

end

/-- What apply leaves. -/
def RetAy (w : World) (base SB R : Nat) (d : DS) (cs : List (List Nat)) (s' : Ss) (L : Lay) (ea : Option Addr) (e : Ending) (w' : World) : Prop :=
  e = .returned (.tuple #[]) ∧ ∃ L' : Lay, SoX w' base SB R d cs s' L' ∧ Chg (L.M SB R) w w' ∧ L'.F = L.F ∧ ∀ g ∈ L'.M SB R, g ∈ L.M SB R ∨ g ∈ blk ea ∨ w.heap.size ≤ g

section
variable {w : World} {base SB R : Nat} {d : DS} {cs : List (List Nat)} {s : Ss} {L : Lay} {ma ea : Option Addr} {mc ec lm le : Nat} {r : Pr}

set_option maxRecDepth 100000 in
set_option maxHeartbeats 2000000 in
theorem apply_1 (h : SoX w base SB R d cs s L) (hr : Ry w base (L.M SB R) L.F ma mc ea ec r) (hle : r.ents.length = le) (hs : s.now.ents.length ≤ 900000) (hl : le ≤ 10000) :
    Calls Tryz.prog 17 #[.pointer (some ⟨SB, 0, none⟩), .agg #[.int .i64 1, .int .i64 r.epoch, .slice ma lm mc, .int .i64 r.pos, .int .i64 r.last, .slice ea le ec]] w
      (RetAy w base SB R d cs { s with now := { s.now with ents := s.now.ents ++ r.ents } } L ea) := by
  obtain ⟨n, hn⟩ : ∃ n, s.now.ents.length = n := ⟨_, rfl⟩
  rw [hn] at hs
  have HN := Lib.hid hn
  have HLE := Lib.hid hle
  have HX0 := Lib.hid h
  have hbl := below_one w (.cells #[.int .i64 1, .int .i64 r.epoch, .slice ma lm mc, .int .i64 r.pos, .int .i64 r.last, .slice ea le ec] 35)
  have HB : Hid (Bx (w.alloc (.cells #[.int .i64 1, .int .i64 r.epoch, .slice ma lm mc, .int .i64 r.pos, .int .i64 r.last, .slice ea le ec] 35)) w.heap.size 35 #[.int .i64 1, .int .i64 r.epoch, .slice ma lm mc, .int .i64 r.pos, .int .i64 r.last, .slice ea le ec]) := bx_new8 _ _ _
  have HE0 := Lib.hid hbl
  have HX := Lib.hid (h.below hbl)
  have HR := Lib.hid (hr.below hbl)
  have hSB := bx_lt h.box
  clear h hr hle hn hbl
  go_enter Tryz.func17, Tryz.ntmps17
  have k0 := HB.out.cell 0 (.int .i64 1) rfl
  go_wp2_with fail
  generalize (w.alloc (.cells #[.int .i64 1, .int .i64 r.epoch, .slice ma lm mc, .int .i64 r.pos, .int .i64 r.last, .slice ea le ec] 35)) = w1 at *
  have hne : w.heap.size ≠ SB := by omega
  have hB5 : w1.cell? ⟨w.heap.size, 5, none⟩ = some (.slice ea le ec) := HB.out.cell 5 _ rfl
  refine wp_region_S2 (fun x => x.cell? ⟨w.heap.size, 5, none⟩ = some (.slice ea le ec)) (by kernel_rfl) ?_
  have hSw : w1.drew.cell? ⟨w.heap.size, 5, none⟩ = some (.slice ea le ec) := hB5
  have hbd : Below w1.heap.size w1 w1.drew := Below.drew (Below.refl _ w1)
  have HX2 := Lib.hid (HX.out.below hbd)
  have HR2 := Lib.hid (HR.out.below hbd)
  have HE2 : Hid (Below w.heap.size w w1.drew) := HE0.out.drew
  clear hbd HX HR HB k0 hB5
  generalize w1.drew = w2 at *
  refine wpAnyH_tkS2 (i := 0) 8 (v := ?_) rfl rfl (by kernel_rfl) (by kernel_rfl) (by kernel_rfl) (by rfl) hSw (fun wq hwq => ?_) ?_
  rotate_left
  · (have hx := True.intro; go_simp <;> with_reducible rfl)
  simp only [List.setIfInBounds_toArray, List.set_cons_zero, List.set_cons_succ]
  refine wpAnyH_tkS2 (i := 1) 9 (v := ?_) rfl rfl (by kernel_rfl) (by kernel_rfl) (by kernel_rfl) (by rfl) hSw (fun wq hwq => ?_) ?_
  rotate_left
  · (have hx := True.intro; go_simp <;> with_reducible rfl)
  simp only [List.setIfInBounds_toArray, List.set_cons_zero, List.set_cons_succ]
  refine wpAnyH_tkS2 (i := 2) 10 (v := ?_) rfl rfl (by kernel_rfl) (by kernel_rfl) (by kernel_rfl) (by rfl) hSw (fun wq hwq => ?_) ?_
  rotate_left
  · (have hx := True.intro; go_simp <;> with_reducible rfl)
  simp only [List.setIfInBounds_toArray, List.set_cons_zero, List.set_cons_succ]
  refine wpAnyH_tkS2 (i := 3) 11 (v := ?_) rfl rfl (by kernel_rfl) (by kernel_rfl) (by kernel_rfl) (by rfl) hSw (fun wq hwq => ?_) ?_
  rotate_left
  · (have hx := True.intro; go_simp <;> with_reducible rfl)
  simp only [List.setIfInBounds_toArray, List.set_cons_zero, List.set_cons_succ]
  refine wpAnyH_tkS2 (i := 4) 12 (v := ?_) rfl rfl (by kernel_rfl) (by kernel_rfl) (by kernel_rfl) (by rfl) hSw (fun wq hwq => ?_) ?_
  rotate_left
  · (have hx := True.intro; go_simp <;> with_reducible rfl)
  simp only [List.setIfInBounds_toArray, List.set_cons_zero, List.set_cons_succ]
  refine wpAnyH_tkS2 (i := 6) 14 (v := ?_) rfl rfl (by kernel_rfl) (by kernel_rfl) (by kernel_rfl) (by rfl) hSw (fun wq hwq => ?_) ?_
  rotate_left
  · (have hx := True.intro; go_simp <;> with_reducible rfl)
  simp only [List.setIfInBounds_toArray, List.set_cons_zero, List.set_cons_succ]
  refine wpAnyH_tkS2 (i := 7) 15 (v := ?_) rfl rfl (by kernel_rfl) (by kernel_rfl) (by kernel_rfl) (by rfl) hSw (fun wq hwq => ?_) ?_
  rotate_left
  · (have hx := hwq; go_simp <;> with_reducible rfl)
  simp only [List.setIfInBounds_toArray, List.set_cons_zero, List.set_cons_succ]
  have c6 : w2.cell? ⟨SB, 6, none⟩ = some (.slice L.na n L.nc) := HX2.out.box.cell 6 _ (by rw [← HN.out]; rfl)
  refine wpAnyH_oneS2 (i := 5) rfl (by kernel_rfl) (by rfl) (fun K hK => ?_)
  go_simp
  refine hK.out _ _ (fun x => x.cell? ⟨w.heap.size, 5, none⟩ = some (.slice ea le ec)) (fun _ h => h) (hSw) ?_
  clear hK K
  obtain ⟨⟨xs, hxs, hox, hfx⟩, _⟩ := HX2.out.own
  obtain ⟨⟨ys, hys, hoy, hfy⟩, hwy⟩ := HR2.out.ents
  have HXS := Lib.hid hxs
  have HYS := Lib.hid hys
  have HFX := Lib.hid hfx
  have HFY := Lib.hid hfy
  have HWY := Lib.hid hwy
  have hxl : xs.length = n := by rw [← HN.out, ← hxs, List.length_map]
  have hyl : ys.length = le := by rw [← HLE.out, ← hys, List.length_map]
  rw [hxl] at hox
  rw [hyl] at hoy
  have HOX := Lib.hid hox
  have HQ := Lib.hid (row_cells hoy (by rw [evals_len, hyl]))
  have HYL := Lib.hid hyl
  have hbs : base ≤ w2.heap.size := by have h1 := HX2.out.base; have h2 := bx_lt HX2.out.box; omega
  clear hxs hys hfx hfy hwy hox hoy hxl hyl
  refine wpAnyH_oneS2 (i := 8) rfl (by kernel_rfl) (by rfl) (fun K hK => ?_)
  refine wp_appRawAt (.tmp 13) (.tmp 15) 33 41 rfl Tryz.underlying33 _ 8 88 infoE rfl (by omega) (by omega) base L.na L.nc n (evals xs) rfl HOX.out ea le ec (evals ys) rfl (by rw [evals_len, HYL.out]) HQ.out (evals_one ys) (by omega) hbs ?_
  intro va vc w3 ho hg hat
  have HCH := Lib.hid (chg_own hg)
  have HF := Lib.hid (HX2.out.grow (n := n + le) HXS.out HYS.out HFX.out (fun x hx => (HFY.out x hx).sub fun _ hg => .inl (List.mem_append_right _ hg)) HWY.out (by rw [List.length_append, HN.out, HLE.out]) ho hg hat)
  have hSB3 : w3.cell? ⟨SB, 6, none⟩ = some (.slice L.na n L.nc) := HCH.out.cell c6 HX2.out.nS.2.1
  have hfr : w3.frozen? ⟨SB, 6, none⟩ = false := (HX2.out.box.chg HCH.out HX2.out.nS.2.1).free 6
  have hS3 : w3.cell? ⟨w.heap.size, 5, none⟩ = some (.slice ea le ec) := HCH.out.cell hSw (fun e => by
    have h1 := HX0.out.own.lt (g := w.heap.size) e
    omega)
  clear ho hg hat
  go_simp
  refine hK.out _ _ (fun x => x.cell? ⟨w.heap.size, 5, none⟩ = some (.slice ea le ec)) (fun _ h => h) (hS3) ?_
  clear hK K
  clear hSw c6
  have hSw := hS3
  refine wpAnyH_tkS2 (i := 9) 17 (v := ?_) rfl rfl (by kernel_rfl) (by kernel_rfl) (by kernel_rfl) (by rfl) hSw (fun wq hwq => ?_) ?_
  rotate_left
  · (have hx := True.intro; go_simp <;> with_reducible rfl)
  simp only [List.setIfInBounds_toArray, List.set_cons_zero, List.set_cons_succ]
  refine wpAnyH_tkS2 (i := 10) 18 (v := ?_) rfl rfl (by kernel_rfl) (by kernel_rfl) (by kernel_rfl) (by rfl) hSw (fun wq hwq => ?_) ?_
  rotate_left
  · (have hx := True.intro; go_simp <;> with_reducible rfl)
  simp only [List.setIfInBounds_toArray, List.set_cons_zero, List.set_cons_succ]
  refine wpAnyH_tkS2 (i := 11) 19 (v := ?_) rfl rfl (by kernel_rfl) (by kernel_rfl) (by kernel_rfl) (by rfl) hSw (fun wq hwq => ?_) ?_
  rotate_left
  · (have hx := True.intro; go_simp <;> with_reducible rfl)
  simp only [List.setIfInBounds_toArray, List.set_cons_zero, List.set_cons_succ]
  refine wpAnyH_oneS2 (i := 12) rfl (by kernel_rfl) (by rfl) (fun K hK => ?_)
  go_simp
  have hS4 : (w3.setCell ⟨SB, 6, none⟩ (.slice va (n + le) vc)).cell? ⟨w.heap.size, 5, none⟩ = some (.slice ea le ec) := by
    rw [World.cell?_setCell_other _ _ _ _ (by simp)]
    exact hS3
  refine hK.out _ _ (fun x => x.cell? ⟨w.heap.size, 5, none⟩ = some (.slice ea le ec)) (fun _ h => h) (hS4) ?_
  clear hK K
  refine wpAnyH_done (by kernel_rfl) ?_ _
  refine NoPanic.normal ?_
  have HFIN : Hid (RetAy w base SB R d cs { s with now := { s.now with ents := s.now.ents ++ r.ents } } L ea (.returned (.tuple #[])) (w3.setCell ⟨SB, 6, none⟩ (.slice va (n + le) vc))) :=
    ⟨rfl, _, HF.out.1, (Chg.of_below HE2.out).trans HF.out.2.1, rfl, fun g hg => by
      rcases HF.out.2.2 g hg with h1 | h1
      · exact .inl h1
      · exact .inr (.inr (Nat.le_trans HE2.out.size h1))⟩
  go_wp2
  go_end0
  exact HFIN.out

set_option maxRecDepth 100000 in
set_option maxHeartbeats 2000000 in
theorem apply_2 (h : SoX w base SB R d cs s L) (k : Int) (hk : k = 2) (x1 : Int) (x3 x4 : Int) :
    Calls Tryz.prog 17 #[.pointer (some ⟨SB, 0, none⟩), .agg #[.int .i64 k, .int .i64 x1, .slice ma lm mc, .int .i64 x3, .int .i64 x4, .slice ea le ec]] w
      (RetAy w base SB R d cs { s with sealed := true } L ea) := by
  have d1 : (k == 1) = false := by rw [hk]; rfl
  have d2 : (k == 2) = true := by rw [hk]; rfl
  have hbl := below_one w (.cells #[.int .i64 k, .int .i64 x1, .slice ma lm mc, .int .i64 x3, .int .i64 x4, .slice ea le ec] 35)
  have HB : Hid (Bx (w.alloc (.cells #[.int .i64 k, .int .i64 x1, .slice ma lm mc, .int .i64 x3, .int .i64 x4, .slice ea le ec] 35)) w.heap.size 35 #[.int .i64 k, .int .i64 x1, .slice ma lm mc, .int .i64 x3, .int .i64 x4, .slice ea le ec]) := bx_new8 _ _ _
  have HE0 := Lib.hid hbl
  have HX := Lib.hid (h.below hbl)
  have k0 := HB.out.cell 0 (.int .i64 k) rfl
  have c7 : (w.alloc (.cells #[.int .i64 k, .int .i64 x1, .slice ma lm mc, .int .i64 x3, .int .i64 x4, .slice ea le ec] 35)).cell? ⟨SB, 7, none⟩ = some (.bool s.sealed) := HX.out.box.cell 7 _ rfl
  have f7 := HX.out.box.free 7
  have HF : Hid (SoX ((w.alloc (.cells #[.int .i64 k, .int .i64 x1, .slice ma lm mc, .int .i64 x3, .int .i64 x4, .slice ea le ec] 35)).setCell ⟨SB, 7, none⟩ (.bool true)) base SB R d cs { s with sealed := true } L) :=
    HX.out.put (L' := L) rfl rfl rfl rfl (HX.out.box.set 7 _ rfl) (chg_set1 _ SB 7 _) HX.out.own HX.out.mem HX.out.stg (fun g hg => ⟨fun e => HX.out.nS.2.1 (e ▸ hg), HX.out.nN g hg⟩)
  have HC : Hid (Chg (L.M SB R) w ((w.alloc (.cells #[.int .i64 k, .int .i64 x1, .slice ma lm mc, .int .i64 x3, .int .i64 x4, .slice ea le ec] 35)).setCell ⟨SB, 7, none⟩ (.bool true))) := (Chg.of_below HE0.out).trans ((chg_set1 _ SB 7 _).mono fun g hg => Lay.mem.2 (.inl (by simpa using hg)))
  clear h hbl hk HX HB HE0
  go_enter Tryz.func17, Tryz.ntmps17
  go_wp2
  go_end0
  exact ⟨rfl, L, HF.out, HC.out, rfl, fun g hg => .inl hg⟩

set_option maxRecDepth 100000 in
set_option maxHeartbeats 2000000 in
theorem apply_3 (h : SoX w base SB R d cs s L) (hr : Ry w base (L.M SB R) L.F ma mc ea ec r) (hlm : r.mem.length = lm) (hle : r.ents.length = le) (hk : r.kind = 3) :
    Calls Tryz.prog 17 #[.pointer (some ⟨SB, 0, none⟩), .agg #[.int .i64 r.kind, .int .i64 r.epoch, .slice ma lm mc, .int .i64 r.pos, .int .i64 r.last, .slice ea le ec]] w
      (RetAy w base SB R d cs { s with staged := r } L ea) := by
  have d1 : (r.kind == 1) = false := by rw [hk]; rfl
  have d2 : (r.kind == 2) = false := by rw [hk]; rfl
  have d3 : (r.kind == 3) = true := by rw [hk]; rfl
  have HLM := Lib.hid hlm
  have HLE := Lib.hid hle
  have hbl := below_one w (.cells #[.int .i64 r.kind, .int .i64 r.epoch, .slice ma lm mc, .int .i64 r.pos, .int .i64 r.last, .slice ea le ec] 35)
  have HB : Hid (Bx (w.alloc (.cells #[.int .i64 r.kind, .int .i64 r.epoch, .slice ma lm mc, .int .i64 r.pos, .int .i64 r.last, .slice ea le ec] 35)) w.heap.size 35 #[.int .i64 r.kind, .int .i64 r.epoch, .slice ma lm mc, .int .i64 r.pos, .int .i64 r.last, .slice ea le ec]) := bx_new8 _ _ _
  have HE0 := Lib.hid hbl
  have HX := Lib.hid (h.below hbl)
  have HR := Lib.hid (hr.below hbl).recAt
  clear h hbl hk hr hlm hle
  go_enter Tryz.func17, Tryz.ntmps17
  have k0 := HB.out.cell 0 (.int .i64 r.kind) rfl
  have k1 := HB.out.cell 1 (.int .i64 r.epoch) rfl
  have k2 := HB.out.cell 2 (.slice ma lm mc) rfl
  have k3 := HB.out.cell 3 (.int .i64 r.pos) rfl
  have k4 := HB.out.cell 4 (.int .i64 r.last) rfl
  have k5 := HB.out.cell 5 (.slice ea le ec) rfl
  go_wp2_with (refine wpList_st 35 6 SB 8 60 #[.int .i64 r.kind, .int .i64 r.epoch, .slice ma lm mc, .int .i64 r.pos, .int .i64 r.last, .slice ea le ec] (L.cells s) (Lay.cells { L with xa := ma, xc := mc, ya := ea, yc := ec } { s with staged := r }) (.tmp 30) (.tmp 28) rfl rfl rfl rfl rfl (by kernel_rfl) rfl HX.out.box (by show 14 ≤ 14; omega) (by simp [Value.oneCell']) (by rw [← HLM.out, ← HLE.out]; rfl) ?_; intro w3 hb3 hc3)
  have HF := Lib.hid (HX.out.put (L' := { L with xa := ma, xc := mc, ya := ea, yc := ec }) (s' := { s with staged := r }) rfl rfl rfl rfl hb3 hc3 HX.out.own HX.out.mem HR.out (fun g hg => ⟨fun e => HX.out.nS.2.1 (e ▸ hg), HX.out.nN g hg⟩))
  have HC : Hid (Chg (L.M SB R) w w3) := (Chg.of_below HE0.out).trans (hc3.mono fun g hg => Lay.mem.2 (.inl (by simpa using hg)))
  clear hb3 hc3
  go_wp2
  go_end0
  exact ⟨rfl, _, HF.out, HC.out, rfl, fun g hg => .inl hg⟩

theorem rec0_at (x : World) : RecAt x none 0 none 0 pr0 := ⟨IntsAt.nil (Nat.zero_le _), EnsAt.nil (Nat.zero_le _), pr0_wf14⟩

set_option maxRecDepth 100000 in
set_option maxHeartbeats 2000000 in
theorem apply_4 (h : SoX w base SB R d cs s L) (hr : Ry w base (L.M SB R) L.F ma mc ea ec r) (hlm : r.mem.length = lm) (hle : r.ents.length = le) (hk : r.kind = 4) :
    Calls Tryz.prog 17 #[.pointer (some ⟨SB, 0, none⟩), .agg #[.int .i64 r.kind, .int .i64 r.epoch, .slice ma lm mc, .int .i64 r.pos, .int .i64 r.last, .slice ea le ec]] w
      (RetAy w base SB R d cs ⟨r, false, pr0⟩ L ea) := by
  have d1 : (r.kind == 1) = false := by rw [hk]; rfl
  have d2 : (r.kind == 2) = false := by rw [hk]; rfl
  have d3 : (r.kind == 3) = false := by rw [hk]; rfl
  have d4 : (r.kind == 4) = true := by rw [hk]; rfl
  have HLM := Lib.hid hlm
  have HLE := Lib.hid hle
  have hbl := below_one w (.cells #[.int .i64 r.kind, .int .i64 r.epoch, .slice ma lm mc, .int .i64 r.pos, .int .i64 r.last, .slice ea le ec] 35)
  have HB : Hid (Box (w.alloc (.cells #[.int .i64 r.kind, .int .i64 r.epoch, .slice ma lm mc, .int .i64 r.pos, .int .i64 r.last, .slice ea le ec] 35)) w.heap.size #[.int .i64 r.kind, .int .i64 r.epoch, .slice ma lm mc, .int .i64 r.pos, .int .i64 r.last, .slice ea le ec]) := box_new _ _ _ _ rfl
  have HE0 := Lib.hid hbl
  have HX := Lib.hid (h.below hbl)
  have HR := Lib.hid (hr.below hbl)
  have hSB := bx_lt h.box
  clear h hbl hk hr hlm hle
  go_enter Tryz.func17, Tryz.ntmps17
  have k0 := (box6 HB.out).1
  go_wp2_with fail
  generalize (w.alloc (.cells #[.int .i64 r.kind, .int .i64 r.epoch, .slice ma lm mc, .int .i64 r.pos, .int .i64 r.last, .slice ea le ec] 35)) = w1 at *
  have hne : w.heap.size ≠ SB := by omega
  have hS0 : w1.cell? ⟨SB, 0, none⟩ = some (.pointer (some ⟨L.RB, 0, none⟩)) ∧ Box w1 w.heap.size #[.int .i64 r.kind, .int .i64 r.epoch, .slice ma lm mc, .int .i64 r.pos, .int .i64 r.last, .slice ea le ec] := ⟨HX.out.box.cell 0 _ rfl, HB.out⟩
  refine wp_region_S2 (fun x => x.cell? ⟨SB, 0, none⟩ = some (.pointer (some ⟨L.RB, 0, none⟩)) ∧ Box x w.heap.size #[.int .i64 r.kind, .int .i64 r.epoch, .slice ma lm mc, .int .i64 r.pos, .int .i64 r.last, .slice ea le ec]) (by kernel_rfl) ?_
  have hSw : w1.drew.cell? ⟨SB, 0, none⟩ = some (.pointer (some ⟨L.RB, 0, none⟩)) ∧ Box w1.drew w.heap.size #[.int .i64 r.kind, .int .i64 r.epoch, .slice ma lm mc, .int .i64 r.pos, .int .i64 r.last, .slice ea le ec] := hS0
  have hbd : Below w1.heap.size w1 w1.drew := Below.drew (Below.refl _ w1)
  have HX2 := Lib.hid (HX.out.below hbd)
  have HR2 := Lib.hid (HR.out.below hbd)
  have HE2 : Hid (Below w.heap.size w w1.drew) := HE0.out.drew
  clear hbd HX HR HB k0 hS0
  generalize w1.drew = w2 at *
  refine wpAnyH_tkS2 (i := 0) 33 (v := ?_) rfl rfl (by kernel_rfl) (by kernel_rfl) (by kernel_rfl) (by rfl) hSw (fun wq hwq => ?_) ?_
  rotate_left
  · (have hx := True.intro; go_simp <;> with_reducible rfl)
  simp only [List.setIfInBounds_toArray, List.set_cons_zero, List.set_cons_succ]
  refine wpAnyH_tkS2 (i := 1) 34 (v := ?_) rfl rfl (by kernel_rfl) (by kernel_rfl) (by kernel_rfl) (by rfl) hSw (fun wq hwq => ?_) ?_
  rotate_left
  · (have hx := True.intro; go_simp <;> with_reducible rfl)
  simp only [List.setIfInBounds_toArray, List.set_cons_zero, List.set_cons_succ]
  refine wpAnyH_tkS2 (i := 2) 35 (v := ?_) rfl rfl (by kernel_rfl) (by kernel_rfl) (by kernel_rfl) (by rfl) hSw (fun wq hwq => ?_) ?_
  rotate_left
  · (have hx := True.intro; go_simp <;> with_reducible rfl)
  simp only [List.setIfInBounds_toArray, List.set_cons_zero, List.set_cons_succ]
  refine wpAnyH_tkS2 (i := 3) 36 (v := ?_) rfl rfl (by kernel_rfl) (by kernel_rfl) (by kernel_rfl) (by rfl) hSw (fun wq hwq => ?_) ?_
  rotate_left
  · (have hx := True.intro; go_simp <;> with_reducible rfl)
  simp only [List.setIfInBounds_toArray, List.set_cons_zero, List.set_cons_succ]
  refine wpAnyH_tkS2 (i := 4) 37 (v := ?_) rfl rfl (by kernel_rfl) (by kernel_rfl) (by kernel_rfl) (by rfl) hSw (fun wq hwq => ?_) ?_
  rotate_left
  · (have hx := hwq.1; go_simp <;> with_reducible rfl)
  simp only [List.setIfInBounds_toArray, List.set_cons_zero, List.set_cons_succ]
  refine wpAnyH_tkS2 (i := 5) 38 (v := ?_) rfl rfl (by kernel_rfl) (by kernel_rfl) (by kernel_rfl) (by rfl) hSw (fun wq hwq => ?_) ?_
  rotate_left
  · (obtain ⟨y0, y1, y2, y3, y4, y5⟩ := box6 hwq.2; go_simp <;> with_reducible rfl)
  simp only [List.setIfInBounds_toArray, List.set_cons_zero, List.set_cons_succ]
  refine wpAnyH_tkS2 (i := 6) 39 (v := ?_) rfl rfl (by kernel_rfl) (by kernel_rfl) (by kernel_rfl) (by rfl) hSw (fun wq hwq => ?_) ?_
  rotate_left
  · (have hx := True.intro; go_simp <;> with_reducible rfl)
  simp only [List.setIfInBounds_toArray, List.set_cons_zero, List.set_cons_succ]
  refine wpAnyH_tkS2 (i := 7) 40 (v := ?_) rfl rfl (by kernel_rfl) (by kernel_rfl) (by kernel_rfl) (by rfl) hSw (fun wq hwq => ?_) ?_
  rotate_left
  · (have hx := True.intro; go_simp <;> with_reducible rfl)
  simp only [List.setIfInBounds_toArray, List.set_cons_zero, List.set_cons_succ]
  refine wpAnyH_oneS2 (i := 8) rfl (by kernel_rfl) (by rfl) (fun K hK => ?_)
  refine wp_stS 60 14 SB 0 60 #[.pointer (some ⟨L.RB, 0, none⟩), .int .i64 r.kind, .int .i64 r.epoch, .slice ma lm mc, .int .i64 r.pos, .int .i64 r.last, .slice ea le ec, .bool false, .int .i64 0, .int .i64 0, .slice none 0 0, .int .i64 0, .int .i64 0, .slice none 0 0] (L.cells s) (Lay.cells { L with na := ea, nc := ec, ma := ma, mc := mc, xa := none, xc := 0, ya := none, yc := 0 } ⟨r, false, pr0⟩) (.tmp 40) (.tmp 39) rfl rfl rfl rfl (by kernel_rfl) rfl HX2.out.box (by show 14 ≤ 14; omega) (by simp [Value.oneCell']) (by rw [← HLM.out, ← HLE.out]; rfl) ?_
  intro w3 hb3 hc3
  have hS3 : w3.cell? ⟨SB, 0, none⟩ = some (.pointer (some ⟨L.RB, 0, none⟩)) ∧ Box w3 w.heap.size #[.int .i64 r.kind, .int .i64 r.epoch, .slice ma lm mc, .int .i64 r.pos, .int .i64 r.last, .slice ea le ec] := ⟨hb3.cell 0 _ rfl, fun j v hv => hc3.cell (hSw.2 j v hv) (by simp; exact hne)⟩
  have HM : Hid (∀ g ∈ ({ L with na := ea, nc := ec, ma := ma, mc := mc, xa := none, xc := 0, ya := none, yc := 0 } : Lay).M SB R, g ∈ blk ea ++ L.M SB R) := fun g hg => by
    rw [List.mem_append]
    rcases Lay.mem.1 hg with e | e | e
    · exact .inr (Lay.mem.2 (.inl e))
    · exact .inr (Lay.mem.2 (.inr (.inl e)))
    · exact .inl e
  have HF := Lib.hid (HX2.out.put (L' := { L with na := ea, nc := ec, ma := ma, mc := mc, xa := none, xc := 0, ya := none, yc := 0 }) (s' := ⟨r, false, pr0⟩) rfl rfl rfl rfl hb3 hc3 (HR2.out.ents.go (gs := []) (Chg.refl _ _) (by simp) (by simp) (fun g hg => .inl (HM.out g hg))) (HR2.out.mem.sub fun g hg => .inl (HM.out g hg)) (fun _ _ _ _ => rec0_at _)
    (fun g hg => ⟨fun e => (HR2.out.apart g hg).1 (Lay.mem.2 (.inl e)), fun e => (HR2.out.apart g hg).1 (Lay.mem.2 (.inr (.inl e))), (HR2.out.apart g hg).2⟩))
  have HC : Hid (Chg (L.M SB R) w w3) := (Chg.of_below HE2.out).trans (hc3.mono fun g hg => Lay.mem.2 (.inl (by simpa using hg)))
  clear hb3 hc3
  refine hK.out _ _ (fun x => x.cell? ⟨SB, 0, none⟩ = some (.pointer (some ⟨L.RB, 0, none⟩)) ∧ Box x w.heap.size #[.int .i64 r.kind, .int .i64 r.epoch, .slice ma lm mc, .int .i64 r.pos, .int .i64 r.last, .slice ea le ec]) (fun _ h => h) (hS3) ?_
  clear hK K
  refine wpAnyH_done (by kernel_rfl) ?_ _
  refine NoPanic.normal ?_
  go_wp2
  go_end0
  refine ⟨rfl, _, HF.out, HC.out, rfl, fun g hg => ?_⟩
  rcases List.mem_append.mp (HM.out g hg) with h1 | h1
  · exact .inr (.inl h1)
  · exact .inl h1

/-- A record is applied. -/
theorem apply_any (h : SoX w base SB R d cs s L) (hr : Ry w base (L.M SB R) L.F ma mc ea ec r) (hlm : r.mem.length = lm) (hle : r.ents.length = le) (hs : s.now.ents.length ≤ 900000) (hl : le ≤ 10000) (hk : 1 ≤ r.kind ∧ r.kind ≤ 4) :
    Calls Tryz.prog 17 #[.pointer (some ⟨SB, 0, none⟩), .agg #[.int .i64 r.kind, .int .i64 r.epoch, .slice ma lm mc, .int .i64 r.pos, .int .i64 r.last, .slice ea le ec]] w
      (RetAy w base SB R d cs (appS s r) L ea) := by
  have hk4 : r.kind = 1 ∨ r.kind = 2 ∨ r.kind = 3 ∨ r.kind = 4 := by omega
  rcases hk4 with e | e | e | e
  · rw [appS_one e, e]
    exact apply_1 h hr hle hs hl
  · rw [appS_two e]
    exact apply_2 h r.kind e r.epoch r.pos r.last
  · rw [appS_three e]
    exact apply_3 h hr hlm hle e
  · rw [appS_four e]
    exact apply_4 h hr hlm hle e

end

end Go.Proofs.YtdgpbdedaafdiaaGreat

namespace Go.Proofs.YtdgpbdedaafdiaaGreat
open Go.RowKit



section
variable {w w0 w1 w5 : World} {base SB R : Nat} {d d1 : DS} {cs cs1 : List (List Nat)} {s : Ss} {L : Lay} {ma ea : Option Addr} {mc ec lm le : Nat} {r : Pr}

/-- A store whose book has turned, and a record copied behind that; B is a box of the call's own. -/
theorem wr_fin (h : SoX w base SB R d cs s L) {B : Nat} (hB : w.heap.size ≤ B) (h01 : Below w.heap.size w w0) (hB0 : B < w0.heap.size) {a1 ga1 : Option Addr} {F1 : List Nat} (hk1 : Bk w1 base L.RB R a1 ga1 d1 cs1 F1) (hm1 : Mv w0 w1 (bkM L.RB R L.a L.ga) (bkM L.RB R a1 ga1))
    (hF1 : ∀ g ∈ F1, g ∈ L.F ∨ (w0.heap.size ≤ g ∧ g < w1.heap.size)) (h15 : Chg [B] w1 w5) {lo hi hi' : Nat} (hrow : RowE w5 lo hi ea ec r.ents) (hlo : w1.heap.size ≤ lo) (hmem : Rob w1.heap.size hi' w5 fun x => IntsAt x ma mc r.mem) (hi1 : hi' ≤ lo) (hi2 : lo ≤ w5.heap.size) (hw : r.Wf) :
    SoX w5 base SB R d1 cs1 s { L with a := a1, ga := ga1, F := F1 } ∧ Mv w w5 (L.M SB R) (({ L with a := a1, ga := ga1, F := F1 } : Lay).M SB R) ∧ Ry w5 base (({ L with a := a1, ga := ga1, F := F1 } : Lay).M SB R) F1 ma mc ea ec r ∧ ∀ g ∈ blk ea, w.heap.size ≤ g := by
  have hnB : B ∉ bkM L.RB R a1 ga1 := fun e => by
    rcases hm1.now B e with e | e
    · have := (h.bk.mLt e).2; omega
    · omega
  have hnF : B ∉ F1 := fun e => by
    rcases hF1 B e with e | e
    · have := h.fLt B e; omega
    · omega
  have hk5 : Bk w5 base L.RB R a1 ga1 d1 cs1 F1 := hk1.apart h15 fun g hg => by
    have : g = B := by simpa using hg
    subst this
    exact ⟨hnB, hnF⟩
  have hm0 : Mv w w1 (bkM L.RB R L.a L.ga) (bkM L.RB R a1 ga1) := (Mv.of_below _ h01).trans hm1
  have hge : ∀ g ∈ [B], w.heap.size ≤ g := fun g hg => by
    have : g = B := by simpa using hg
    omega
  have hm5 : Mv w w5 (bkM L.RB R L.a L.ga) (bkM L.RB R a1 ga1) := ⟨hm0.chg.wide h15 fun g hg => .inr (hge g hg), hm0.now⟩
  obtain ⟨hX, hM⟩ := h.book hk5 hm5 fun g hg => by
    rcases hF1 g hg with e | e
    · exact .inl e
    · have h1 := h01.size
      have h2 := h15.size
      exact .inr ⟨by omega, by omega⟩
  have hs1 := hm0.chg.size
  have hMl : ∀ g ∈ ({ L with a := a1, ga := ga1, F := F1 } : Lay).M SB R, g < w1.heap.size := fun g hg => by
    rcases Lay.mem.1 hg with e | e | e
    · have := bx_lt h.box; omega
    · exact (hk1.mLt e).2
    · have := (h.own.lt (g := g) e).2; omega
  have hea : ∀ g ∈ blk ea, lo ≤ g ∧ g < hi := fun g hg => by
    obtain ⟨xs, _, hE, _, ho⟩ := hrow
    exact ⟨(World.ownsRow.lt hE.own g (blk_own hg)).1, ho g (blk_own hg)⟩
  have hba := h.base
  have hbl := bx_lt h.box
  refine ⟨hX, hM, ⟨er_of hrow hw.ents (by omega) fun g hg => ?_, kp_rob hmem (fun g hg => ?_) (by omega), hw, fun g hg => ⟨fun e => ?_, fun e => ?_⟩⟩, fun g hg => by have := (hea g hg).1; omega⟩
  · rcases List.mem_append.mp hg with e | e
    · exact .inr (.inr e)
    · have := hMl g e; exact .inl (by omega)
  · rcases List.mem_append.mp hg with e | e
    · have := (hea g e).1; exact .inr (by omega)
    · exact .inl (hMl g e)
  · have h1 := hMl g e; have h2 := (hea g hg).1; omega
  · have h2 := (hea g hg).1
    rcases hF1 g e with e | e
    · have := h.fLt g e; omega
    · omega

end

/-- What a write answers and leaves. -/
def RetWr (w : World) (base SB R : Nat) (d : DS) (cs : List (List Nat)) (s : Ss) (L : Lay) (r : Pr) (rep : Bool) (e : Ending) (w' : World) : Prop :=
  e = .returned (.int .i64 (wq d r rep).1) ∧ ∃ L' : Lay, SoX w' base SB R (wq d r rep).2 (if (wq d r rep).1 = 0 then (if rep then [encR r] else cs ++ [encR r]) else cs) (if (wq d r rep).1 = 0 then appS s r else s) L' ∧ Mv w w' (L.M SB R) (L'.M SB R)



section
variable {w : World} {base SB R : Nat} {d : DS} {cs : List (List Nat)} {s : Ss} {L : Lay} {ma ea : Option Addr} {mc ec lm le : Nat} {r : Pr}

theorem sndR_kind {r : Pr} (h : sndR r = true) : 1 ≤ r.kind ∧ r.kind ≤ 4 := by
  unfold sndR at h
  simp at h
  omega

theorem sndR_frag {r : Pr} (h : sndR r = true) : ∀ e ∈ r.ents, e.frag.length ≤ 1000000000 := fun e he => by
  have := (sndE_lens e ((sndR_lens r h).2.2 e he)).2
  omega

set_option maxRecDepth 100000 in
set_option maxHeartbeats 4000000 in
theorem write_app (h : SoX w base SB R d cs s L) (hr : Kp (L.M SB R) w fun x => RecAt x ma mc ea ec r) (hlm : r.mem.length = lm) (hle : r.ents.length = le) (hs : s.now.ents.length ≤ 900000) (hcl : cs.length ≤ 1000000) :
    Calls Tryz.prog 59 #[.pointer (some ⟨SB, 0, none⟩), .agg #[.int .i64 r.kind, .int .i64 r.epoch, .slice ma lm mc, .int .i64 r.pos, .int .i64 r.last, .slice ea le ec], .func (.func 60) #[.pointer (some ⟨L.RB, 0, none⟩)] #[]] w
      (RetWr w base SB R d cs s L r false) := by
  have HLM := Lib.hid hlm
  have HLE := Lib.hid hle
  have HX := Lib.hid h
  have HK := Lib.hid hr
  have hbl := below_one w (.cells #[.int .i64 r.kind, .int .i64 r.epoch, .slice ma lm mc, .int .i64 r.pos, .int .i64 r.last, .slice ea le ec] 35)
  have HB0 : Hid (Bx (w.alloc (.cells #[.int .i64 r.kind, .int .i64 r.epoch, .slice ma lm mc, .int .i64 r.pos, .int .i64 r.last, .slice ea le ec] 35)) w.heap.size 35 #[.int .i64 r.kind, .int .i64 r.epoch, .slice ma lm mc, .int .i64 r.pos, .int .i64 r.last, .slice ea le ec]) := bx_new8 _ _ _
  have HE0 := Lib.hid hbl
  have HBL : Hid (w.heap.size < (w.alloc (.cells #[.int .i64 r.kind, .int .i64 r.epoch, .slice ma lm mc, .int .i64 r.pos, .int .i64 r.last, .slice ea le ec] 35)).heap.size) := by show _ < _; simp
  have k0 := HB0.out.cell 0 (.int .i64 r.kind) rfl
  have k1 := HB0.out.cell 1 (.int .i64 r.epoch) rfl
  have k2 := HB0.out.cell 2 (.slice ma lm mc) rfl
  have k3 := HB0.out.cell 3 (.int .i64 r.pos) rfl
  have k4 := HB0.out.cell 4 (.int .i64 r.last) rfl
  have k5 := HB0.out.cell 5 (.slice ea le ec) rfl
  clear h hr hlm hle hbl
  have HCL := Lib.hid hcl
  clear hcl
  go_enter Tryz.func59, Tryz.ntmps59
  go_wp2_with fail
  generalize (w.alloc (.cells #[.int .i64 r.kind, .int .i64 r.epoch, .slice ma lm mc, .int .i64 r.pos, .int .i64 r.last, .slice ea le ec] 35)) = w0 at *
  clear k0 k1 k2 k3 k4 k5
  cases hsn : sndR r
  · have HWQ : Hid (wq d r false = (2, d)) := wq_no d r false hsn
    refine (bkAppend_no L.RB ma ea mc ec lm le r _ (HK.out.below HE0.out).now HLM.out HLE.out hsn).mono ?_
    rintro e w1 ⟨rfl, hb1⟩
    have HF : Hid (RetWr w base SB R d cs s L r false (.returned (.int .i64 2)) w1) := by
      have hb := HE0.out.trans (hb1.mono HE0.out.size)
      unfold RetWr
      rw [HWQ.out]
      exact ⟨rfl, L, HX.out.below hb, Mv.of_below _ hb⟩
    clear hb1
    go_wp2
    go_ret
    exact HF.out
  · have HWQ : Hid (wq d r false = wrt d (frm (encR r)) false) := wq_yes d r false hsn
    have HKD := Lib.hid (sndR_kind hsn)
    have HFR := Lib.hid (sndR_frag hsn)
    have HLS : Hid (lm ≤ 16 ∧ le ≤ 4096) := by have := sndR_lens r hsn; rw [HLM.out, HLE.out] at this; exact ⟨this.1, this.2.1⟩
    refine (bkAppend_yes base L.RB R L.a L.ga d cs L.F ma ea mc ec lm le r _ (HX.out.bk.below HE0.out) (by have := HCL.out; omega) (HK.out.below HE0.out).now HLM.out HLE.out hsn).mono ?_
    rw [← HWQ.out]
    rintro e w1 ⟨rfl, a1, ga1, F1, hk1, hm1, hf1⟩
    have HM1 := Lib.hid hm1
    have HF1 := Lib.hid hf1
    have HPF : Hid (∀ e' w', (∃ L' : Lay, SoX w' base SB R (wq d r false).2 (if (wq d r false).1 = 0 then cs ++ [encR r] else cs) (if (wq d r false).1 = 0 then appS s r else s) L' ∧ Mv w w' (L.M SB R) (L'.M SB R)) → e' = .returned (.int .i64 (wq d r false).1) → RetWr w base SB R d cs s L r false e' w') := fun e' w' h1 h2 => ⟨h2, h1⟩
    clear hm1 hf1 HWQ
    generalize wq d r false = p at *
    obtain ⟨n, d1⟩ := p
    by_cases hn : n = 0
    · subst hn
      have HK1B : Hid (Bk w1 base L.RB R a1 ga1 d1 (cs ++ [encR r]) F1) := by have := hk1; rw [if_pos rfl] at this; exact this
      clear hk1
      have hn1 : ((0 : Int) != 0) = false := rfl
      have HMV : Hid (Mv w w1 (L.M SB R) (w.heap.size :: ({ L with a := a1, ga := ga1, F := F1 } : Lay).M SB R)) := by
        have hm0 : Mv w w1 (bkM L.RB R L.a L.ga) (bkM L.RB R a1 ga1) := (Mv.of_below _ HE0.out).trans HM1.out
        refine ⟨hm0.chg.mono fun g hg => Lay.mem.2 (.inr (.inl hg)), fun g hg => ?_⟩
        rcases List.mem_cons.mp hg with e | e
        · exact .inr (Nat.le_of_eq e.symm)
        · rcases Lay.mem.1 e with e | e | e
          · exact .inl (Lay.mem.2 (.inl e))
          · rcases hm0.now g e with e | e
            · exact .inl (Lay.mem.2 (.inr (.inl e)))
            · exact .inr e
          · exact .inl (Lay.mem.2 (.inr (.inr e)))
      have HK1 := Lib.hid (HK.out.mv HMV.out)
      have HI1 := Lib.hid HK1.out.now.mem
      have HWF := Lib.hid HK1.out.now.wf
      have HB1 : Hid (Bx w1 w.heap.size 35 #[.int .i64 r.kind, .int .i64 r.epoch, .slice ma lm mc, .int .i64 r.pos, .int .i64 r.last, .slice ea le ec]) := HB0.out.chg HM1.out.chg (fun e => by have := (HX.out.bk.mLt e).2; omega)
      have k1 := HB1.out.cell 1 (.int .i64 r.epoch) rfl
      have k2 := HB1.out.cell 2 (.slice ma lm mc) rfl
      go_wp2_with fail
      refine (copyConf_any r.epoch ma mc lm r.mem _ HLM.out (by have := HLS.out; omega) HI1.out).mono ?_
      rintro e w2 ⟨a2, c2, rfl, hr2, hb2⟩
      have HR2 := Lib.hid hr2
      have HE2 := Lib.hid hb2
      have HB2 := Lib.hid (HB1.out.chg (gs := []) (Chg.of_below hb2) (by simp))
      have HK2 := Lib.hid (HK1.out.below hb2)
      clear hr2 hb2 k1 k2 HB1
      have k1 := HB2.out.cell 1 (.int .i64 r.epoch) rfl
      have k2 := HB2.out.cell 2 (.slice ma lm mc) rfl
      have f1 := HB2.out.free 1
      have f2 := HB2.out.free 2
      have k5 := HB2.out.cell 5 (.slice ea le ec) rfl
      have HB3 : Hid (Bx ((w2.setCell ⟨w.heap.size, 1, none⟩ (.int .i64 r.epoch)).setCell ⟨w.heap.size, 2, none⟩ (.slice a2 lm c2)) w.heap.size 35 #[.int .i64 r.kind, .int .i64 r.epoch, .slice a2 lm c2, .int .i64 r.pos, .int .i64 r.last, .slice ea le ec]) := (HB2.out.set 1 _ rfl).set 2 _ rfl
      have HC3 : Hid (Chg [w.heap.size] w2 ((w2.setCell ⟨w.heap.size, 1, none⟩ (.int .i64 r.epoch)).setCell ⟨w.heap.size, 2, none⟩ (.slice a2 lm c2))) := (chg_set1 _ _ _ _).trans (chg_set1 _ _ _ _)
      have HS3 : Hid (((w2.setCell ⟨w.heap.size, 1, none⟩ (.int .i64 r.epoch)).setCell ⟨w.heap.size, 2, none⟩ (.slice a2 lm c2)).heap.size = w2.heap.size) := by show _ = _; simp
      have HN3 : Hid (EnsAt ((w2.setCell ⟨w.heap.size, 1, none⟩ (.int .i64 r.epoch)).setCell ⟨w.heap.size, 2, none⟩ (.slice a2 lm c2)) ea ec r.ents) := (HK2.out [w.heap.size] _ HC3.out (fun g hg => .inl (by simp at hg; simp [hg]))).ents
      go_wp2_with fail
      generalize ((w2.setCell ⟨w.heap.size, 1, none⟩ (.int .i64 r.epoch)).setCell ⟨w.heap.size, 2, none⟩ (.slice a2 lm c2)) = w3 at *
      refine (copyEnts_any ea ec le r.ents _ HLE.out (by have := HLS.out; omega) HN3.out HFR.out).mono ?_
      rintro e w4 ⟨a4, c4, rfl, hr4, hb4⟩
      rw [HLE.out]
      have HR4 := Lib.hid hr4
      have HE4 := Lib.hid hb4
      have HB4 := Lib.hid (HB3.out.chg (gs := []) (Chg.of_below hb4) (by simp))
      clear hr4 hb4 HB2 k1 k2 f1 f2 k5 HB3
      have k5 := HB4.out.cell 5 (.slice ea le ec) rfl
      have f5 := HB4.out.free 5
      have HB5 : Hid (Bx (w4.setCell ⟨w.heap.size, 5, none⟩ (.slice a4 le c4)) w.heap.size 35 #[.int .i64 r.kind, .int .i64 r.epoch, .slice a2 lm c2, .int .i64 r.pos, .int .i64 r.last, .slice a4 le c4]) := HB4.out.set 5 _ rfl
      have HC5 := Lib.hid (chg_set1 w4 w.heap.size 5 (.slice a4 le c4))
      have HS5 : Hid ((w4.setCell ⟨w.heap.size, 5, none⟩ (.slice a4 le c4)).heap.size = w4.heap.size) := by show _ = _; simp
      have q0 := HB5.out.cell 0 (.int .i64 r.kind) rfl
      have q1 := HB5.out.cell 1 (.int .i64 r.epoch) rfl
      have q2 := HB5.out.cell 2 (.slice a2 lm c2) rfl
      have q3 := HB5.out.cell 3 (.int .i64 r.pos) rfl
      have q4 := HB5.out.cell 4 (.int .i64 r.last) rfl
      have q5 := HB5.out.cell 5 (.slice a4 le c4) rfl
      have HWS : Hid (w.heap.size < w1.heap.size) := Nat.lt_of_lt_of_le HBL.out HM1.out.chg.size
      have HFN := Lib.hid (wr_fin (r := r) (w5 := w4.setCell ⟨w.heap.size, 5, none⟩ (.slice a4 le c4)) HX.out (Nat.le_refl _) HE0.out HBL.out HK1B.out HM1.out HF1.out
        ((((Chg.of_below HE2.out).trans HC3.out).trans (Chg.of_below HE4.out)).trans HC5.out)
        (HR4.out.chg HC5.out (fun g hg => by have h1 := HWS.out; have h2 := HE2.out.size; have h3 := HS3.out; simp at hg; omega)) (by have h2 := HE2.out.size; have h3 := HS3.out; omega)
        (((HR2.out.chg HC3.out (fun g hg => by have h1 := HWS.out; simp at hg; omega)).below HE4.out).chg HC5.out (fun g hg => by have h1 := HWS.out; simp at hg; omega)) (Nat.le_of_eq HS3.out.symm) (by rw [HS5.out]; exact HE4.out.size) HWF.out)
      clear HB4 HB5 HR2 HR4 HE2 HE4 HC3 HC5 HK1 HK2 HN3 HI1 HS3 HS5 HWS HMV
      go_wp2_with fail
      generalize (w4.setCell ⟨w.heap.size, 5, none⟩ (.slice a4 le c4)) = w5 at *
      refine (apply_any HFN.out.1 HFN.out.2.2.1 HLM.out HLE.out hs (by have := HLS.out; omega) HKD.out).mono ?_
      rintro e w6 ⟨rfl, L6, hx6, hc6, -, hm6⟩
      have HMF : Hid (Mv w w6 (L.M SB R) (L6.M SB R)) := by
        have h1 := HFN.out.2.1
        have h2 : Mv w w5 (L.M SB R) (blk a4 ++ ({ L with a := a1, ga := ga1, F := F1 } : Lay).M SB R) := ⟨h1.chg, fun g hg => by
          rcases List.mem_append.mp hg with e | e
          · exact .inr (HFN.out.2.2.2 g e)
          · exact h1.now g e⟩
        exact h2.trans ⟨hc6.mono fun g hg => List.mem_append_right _ hg, fun g hg => by
          rcases hm6 g hg with e | e | e
          · exact .inl (List.mem_append_right _ e)
          · exact .inl (List.mem_append_left _ e)
          · exact .inr e⟩
      have HXF := Lib.hid hx6
      clear hx6 hc6 hm6 q0 q1 q2 q3 q4 q5 k5 f5
      have HF := Lib.hid (HPF.out (.returned (.int .i64 0)) w6 ⟨L6, by rw [if_pos trivial, if_pos trivial]; exact HXF.out, HMF.out⟩ rfl)
      go_wp2
      go_ret
      exact HF.out
    · have hn1 : (n != 0) = true := by simp [hn]
      have HF := Lib.hid (HPF.out (.returned (.int .i64 n)) w1 ⟨{ L with a := a1, ga := ga1, F := F1 }, by
        rw [if_neg hn] at hk1
        rw [if_neg hn, if_neg hn]
        have hb := HE0.out.size
        exact (HX.out.book hk1 ((Mv.of_below _ HE0.out).trans HM1.out) (fun g hg => by
          rcases HF1.out g hg with e | e
          · exact .inl e
          · exact .inr ⟨by omega, e.2⟩))⟩ rfl)
      clear hk1 hn
      go_wp2
      go_ret
      exact HF.out

end

/-- A region's condition: the closure's cell, the store's book and a record's box are as they were. -/
def Rw1 (B cp SB : Nat) (p : Value) (C : Array Value) (x : World) : Prop := x.cell? ⟨cp, 0, none⟩ = some (.pointer (some ⟨SB, 0, none⟩)) ∧ x.cell? ⟨SB, 0, none⟩ = some p ∧ Box x B C

theorem Rw1.chg {B cp SB : Nat} {p : Value} {C : Array Value} {x y : World} {gs : List Nat} (h : Rw1 B cp SB p C x) (hc : Chg gs x y) (h1 : cp ∉ gs) (h2 : SB ∉ gs) (h3 : B ∉ gs) : Rw1 B cp SB p C y :=
  ⟨hc.cell h.1 h1, hc.cell h.2.1 h2, fun j v hv => hc.cell (h.2.2 j v hv) h3⟩

section
variable {w : World} {base SB R : Nat} {d : DS} {cs : List (List Nat)} {s : Ss} {L : Lay} {ma ea : Option Addr} {mc ec lm le : Nat} {r : Pr}


set_option maxRecDepth 100000 in
set_option maxHeartbeats 4000000 in
theorem renew1_no (h : SoX w base SB R d cs s L) (hr : Kp (L.M SB R) w fun x => RecAt x ma mc ea ec r) (hlm : r.mem.length = lm) (hle : r.ents.length = le) (cp : Nat) (hcp : w.cell? ⟨cp, 0, none⟩ = some (.pointer (some ⟨SB, 0, none⟩))) (hno : sndR r = false) :
    Calls Tryz.prog 61 #[.agg #[.int .i64 r.kind, .int .i64 r.epoch, .slice ma lm mc, .int .i64 r.pos, .int .i64 r.last, .slice ea le ec], .pointer (some ⟨cp, 0, none⟩)] w fun e w' => e = .returned (.int .i64 2) ∧ Below w.heap.size w w' := by
  have HNO := Lib.hid hno
  clear hno
  have HLM := Lib.hid hlm
  have HLE := Lib.hid hle
  have HX := Lib.hid h
  have HK := Lib.hid hr
  have hcpl := World.block_lt_of_cell? w _ hcp
  have hSBl := bx_lt h.box
  have hbl := below_one w (.cells #[.int .i64 r.kind, .int .i64 r.epoch, .slice ma lm mc, .int .i64 r.pos, .int .i64 r.last, .slice ea le ec] 35)
  have HB0 : Hid (Box (w.alloc (.cells #[.int .i64 r.kind, .int .i64 r.epoch, .slice ma lm mc, .int .i64 r.pos, .int .i64 r.last, .slice ea le ec] 35)) w.heap.size #[.int .i64 r.kind, .int .i64 r.epoch, .slice ma lm mc, .int .i64 r.pos, .int .i64 r.last, .slice ea le ec]) := box_new _ _ _ _ rfl
  have HE0 := Lib.hid hbl
  have HCP := Lib.hid (cell_later hbl hcp)
  have HBK := Lib.hid (h.bk.below hbl)
  have HBX := Lib.hid ((h.below hbl).box.cell 0 (.pointer (some ⟨L.RB, 0, none⟩)) rfl)
  have HKR := Lib.hid (hr.below hbl)
  clear h hr hlm hle hbl hcp
  go_enter Tryz.func61, Tryz.ntmps61
  go_wp2_with fail
  generalize (w.alloc (.cells #[.int .i64 r.kind, .int .i64 r.epoch, .slice ma lm mc, .int .i64 r.pos, .int .i64 r.last, .slice ea le ec] 35)) = w0 at *
  refine wp_region_S2 (Rw1 w.heap.size cp SB (.pointer (some ⟨L.RB, 0, none⟩)) #[.int .i64 r.kind, .int .i64 r.epoch, .slice ma lm mc, .int .i64 r.pos, .int .i64 r.last, .slice ea le ec]) (by kernel_rfl) ?_
  have hSw : Rw1 w.heap.size cp SB (.pointer (some ⟨L.RB, 0, none⟩)) #[.int .i64 r.kind, .int .i64 r.epoch, .slice ma lm mc, .int .i64 r.pos, .int .i64 r.last, .slice ea le ec] w0.drew := ⟨HCP.out, HBX.out, HB0.out⟩
  have hbd : Below w0.heap.size w0 w0.drew := Below.drew (Below.refl _ w0)
  have HBK2 := Lib.hid (HBK.out.below hbd)
  have HKR2 := Lib.hid (HKR.out.below hbd)
  have HE2 : Hid (Below w.heap.size w w0.drew) := HE0.out.drew
  clear hbd HBK HKR HB0 HBX HCP
  generalize w0.drew = w2 at *
  refine wpAnyH_tkS2 (i := 0) 4 (v := ?_) rfl rfl (by kernel_rfl) (by kernel_rfl) (by kernel_rfl) (by rfl) hSw (fun wq hwq => ?_) ?_
  rotate_left
  · (have hx := hwq.1; go_simp <;> with_reducible rfl)
  simp only [List.setIfInBounds_toArray, List.set_cons_zero, List.set_cons_succ]
  refine wpAnyH_tkS2 (i := 1) 5 (v := ?_) rfl rfl (by kernel_rfl) (by kernel_rfl) (by kernel_rfl) (by rfl) hSw (fun wq hwq => ?_) ?_
  rotate_left
  · (have hx := True.intro; go_simp <;> with_reducible rfl)
  simp only [List.setIfInBounds_toArray, List.set_cons_zero, List.set_cons_succ]
  refine wpAnyH_tkS2 (i := 2) 6 (v := ?_) rfl rfl (by kernel_rfl) (by kernel_rfl) (by kernel_rfl) (by rfl) hSw (fun wq hwq => ?_) ?_
  rotate_left
  · (have hx := True.intro; go_simp <;> with_reducible rfl)
  simp only [List.setIfInBounds_toArray, List.set_cons_zero, List.set_cons_succ]
  refine wpAnyH_tkS2 (i := 3) 7 (v := ?_) rfl rfl (by kernel_rfl) (by kernel_rfl) (by kernel_rfl) (by rfl) hSw (fun wq hwq => ?_) ?_
  rotate_left
  · (have hx := hwq.2.1; go_simp <;> with_reducible rfl)
  simp only [List.setIfInBounds_toArray, List.set_cons_zero, List.set_cons_succ]
  refine wpAnyH_tkS2 (i := 4) 8 (v := ?_) rfl rfl (by kernel_rfl) (by kernel_rfl) (by kernel_rfl) (by rfl) hSw (fun wq hwq => ?_) ?_
  rotate_left
  · (obtain ⟨y0, y1, y2, y3, y4, y5⟩ := box6 hwq.2.2; go_simp <;> with_reducible rfl)
  simp only [List.setIfInBounds_toArray, List.set_cons_zero, List.set_cons_succ]
  have hb3 := below_one w2 (.cells #[.int .i64 r.kind, .int .i64 r.epoch, .slice ma lm mc, .int .i64 r.pos, .int .i64 r.last, .slice ea le ec] 35)
  have HA3 := Lib.hid (rca_box r ma ea mc ec 0 w2.heap.size lm le w2.heap.size HLM.out HLE.out rfl (fun gs x hc hg => HKR2.out gs x hc fun g hm => .inr (by have := hg g hm; omega)))
  have HBK3 := Lib.hid (HBK2.out.below hb3)
  have HE3 := Lib.hid (HE2.out.trans (hb3.mono HE2.out.size))
  have hS3 := hSw.chg (gs := []) (Chg.of_below hb3) (by simp) (by simp) (by simp)
  refine wpAnyH_oneS2 (i := 5) rfl (by kernel_rfl) (by rfl) (fun K hK => ?_)
  go_simp
  refine hK.out _ _ (Rw1 w.heap.size cp SB (.pointer (some ⟨L.RB, 0, none⟩)) #[.int .i64 r.kind, .int .i64 r.epoch, .slice ma lm mc, .int .i64 r.pos, .int .i64 r.last, .slice ea le ec]) (fun _ h => h) (hS3) ?_
  clear hK K
  clear hSw hb3
  refine wpAnyH_oneS2 (i := 6) rfl (by kernel_rfl) (by rfl) (fun K hK => ?_)
  go_simp
  refine (bkRenew_no L.RB _ 1 1 _ _ rfl HA3.out HNO.out).mono ?_
  rintro e w4 ⟨rfl, hb4⟩
  have HE4 := Lib.hid (HE3.out.trans (hb4.mono HE3.out.size))
  have hS4 := hS3.chg (gs := []) (Chg.of_below hb4) (by simp) (by simp) (by simp)
  clear hb4
  refine hK.out _ _ (Rw1 w.heap.size cp SB (.pointer (some ⟨L.RB, 0, none⟩)) #[.int .i64 r.kind, .int .i64 r.epoch, .slice ma lm mc, .int .i64 r.pos, .int .i64 r.last, .slice ea le ec]) (fun _ h => h) (hS4) ?_
  clear hK K
  clear hS3
  have hSw := hS4
  refine wpAnyH_tkS2 (i := 7) 3 (v := ?_) rfl rfl (by kernel_rfl) (by kernel_rfl) (by kernel_rfl) (by rfl) hSw (fun wq hwq => ?_) ?_
  rotate_left
  · (have hx := True.intro; go_simp <;> with_reducible rfl)
  simp only [List.setIfInBounds_toArray, List.set_cons_zero, List.set_cons_succ]
  refine wpAnyH_done (by kernel_rfl) ?_ _
  refine NoPanic.normal ?_
  go_wp2
  go_ret
  exact ⟨rfl, HE4.out⟩

set_option maxRecDepth 100000 in
set_option maxHeartbeats 4000000 in
theorem renew1_yes (h : SoX w base SB R d cs s L) (hr : Kp (L.M SB R) w fun x => RecAt x ma mc ea ec r) (hlm : r.mem.length = lm) (hle : r.ents.length = le) (cp : Nat) (hcp : w.cell? ⟨cp, 0, none⟩ = some (.pointer (some ⟨SB, 0, none⟩))) (hcn : cp ∉ bkM L.RB R L.a L.ga) (hyes : sndR r = true) (hw : r.Wf) (h6 : r.ents.length ≤ 6) :
    Calls Tryz.prog 61 #[.agg #[.int .i64 r.kind, .int .i64 r.epoch, .slice ma lm mc, .int .i64 r.pos, .int .i64 r.last, .slice ea le ec], .pointer (some ⟨cp, 0, none⟩)] w (RetAp w base L.RB R L.a L.ga (wrt d (frm (encR r)) true) cs [encR r] L.F) := by
  have HG : Hid (∀ z ∈ ([⟨r, ma, mc, ea, ec, 0, w.heap.size⟩] : List Rl), GoodX z) := fun z hz => by rw [List.mem_singleton.mp hz]; exact ⟨hyes, h6, hw⟩
  have HCN := Lib.hid hcn
  have HSN := Lib.hid h.nS.1
  clear hcn
  have HLM := Lib.hid hlm
  have HLE := Lib.hid hle
  have HX := Lib.hid h
  have HK := Lib.hid hr
  have hcpl := World.block_lt_of_cell? w _ hcp
  have hSBl := bx_lt h.box
  have hbl := below_one w (.cells #[.int .i64 r.kind, .int .i64 r.epoch, .slice ma lm mc, .int .i64 r.pos, .int .i64 r.last, .slice ea le ec] 35)
  have HB0 : Hid (Box (w.alloc (.cells #[.int .i64 r.kind, .int .i64 r.epoch, .slice ma lm mc, .int .i64 r.pos, .int .i64 r.last, .slice ea le ec] 35)) w.heap.size #[.int .i64 r.kind, .int .i64 r.epoch, .slice ma lm mc, .int .i64 r.pos, .int .i64 r.last, .slice ea le ec]) := box_new _ _ _ _ rfl
  have HE0 := Lib.hid hbl
  have HCP := Lib.hid (cell_later hbl hcp)
  have HBK := Lib.hid (h.bk.below hbl)
  have HBX := Lib.hid ((h.below hbl).box.cell 0 (.pointer (some ⟨L.RB, 0, none⟩)) rfl)
  have HKR := Lib.hid (hr.below hbl)
  clear h hr hlm hle hbl hcp
  go_enter Tryz.func61, Tryz.ntmps61
  go_wp2_with fail
  generalize (w.alloc (.cells #[.int .i64 r.kind, .int .i64 r.epoch, .slice ma lm mc, .int .i64 r.pos, .int .i64 r.last, .slice ea le ec] 35)) = w0 at *
  refine wp_region_S2 (Rw1 w.heap.size cp SB (.pointer (some ⟨L.RB, 0, none⟩)) #[.int .i64 r.kind, .int .i64 r.epoch, .slice ma lm mc, .int .i64 r.pos, .int .i64 r.last, .slice ea le ec]) (by kernel_rfl) ?_
  have hSw : Rw1 w.heap.size cp SB (.pointer (some ⟨L.RB, 0, none⟩)) #[.int .i64 r.kind, .int .i64 r.epoch, .slice ma lm mc, .int .i64 r.pos, .int .i64 r.last, .slice ea le ec] w0.drew := ⟨HCP.out, HBX.out, HB0.out⟩
  have hbd : Below w0.heap.size w0 w0.drew := Below.drew (Below.refl _ w0)
  have HBK2 := Lib.hid (HBK.out.below hbd)
  have HKR2 := Lib.hid (HKR.out.below hbd)
  have HE2 : Hid (Below w.heap.size w w0.drew) := HE0.out.drew
  clear hbd HBK HKR HB0 HBX HCP
  generalize w0.drew = w2 at *
  refine wpAnyH_tkS2 (i := 0) 4 (v := ?_) rfl rfl (by kernel_rfl) (by kernel_rfl) (by kernel_rfl) (by rfl) hSw (fun wq hwq => ?_) ?_
  rotate_left
  · (have hx := hwq.1; go_simp <;> with_reducible rfl)
  simp only [List.setIfInBounds_toArray, List.set_cons_zero, List.set_cons_succ]
  refine wpAnyH_tkS2 (i := 1) 5 (v := ?_) rfl rfl (by kernel_rfl) (by kernel_rfl) (by kernel_rfl) (by rfl) hSw (fun wq hwq => ?_) ?_
  rotate_left
  · (have hx := True.intro; go_simp <;> with_reducible rfl)
  simp only [List.setIfInBounds_toArray, List.set_cons_zero, List.set_cons_succ]
  refine wpAnyH_tkS2 (i := 2) 6 (v := ?_) rfl rfl (by kernel_rfl) (by kernel_rfl) (by kernel_rfl) (by rfl) hSw (fun wq hwq => ?_) ?_
  rotate_left
  · (have hx := True.intro; go_simp <;> with_reducible rfl)
  simp only [List.setIfInBounds_toArray, List.set_cons_zero, List.set_cons_succ]
  refine wpAnyH_tkS2 (i := 3) 7 (v := ?_) rfl rfl (by kernel_rfl) (by kernel_rfl) (by kernel_rfl) (by rfl) hSw (fun wq hwq => ?_) ?_
  rotate_left
  · (have hx := hwq.2.1; go_simp <;> with_reducible rfl)
  simp only [List.setIfInBounds_toArray, List.set_cons_zero, List.set_cons_succ]
  refine wpAnyH_tkS2 (i := 4) 8 (v := ?_) rfl rfl (by kernel_rfl) (by kernel_rfl) (by kernel_rfl) (by rfl) hSw (fun wq hwq => ?_) ?_
  rotate_left
  · (obtain ⟨y0, y1, y2, y3, y4, y5⟩ := box6 hwq.2.2; go_simp <;> with_reducible rfl)
  simp only [List.setIfInBounds_toArray, List.set_cons_zero, List.set_cons_succ]
  have hb3 := below_one w2 (.cells #[.int .i64 r.kind, .int .i64 r.epoch, .slice ma lm mc, .int .i64 r.pos, .int .i64 r.last, .slice ea le ec] 35)
  have HA3 := Lib.hid (rca_box r ma ea mc ec 0 w2.heap.size lm le w2.heap.size HLM.out HLE.out rfl (fun gs x hc hg => HKR2.out gs x hc fun g hm => .inr (by have := hg g hm; omega)))
  have HBK3 := Lib.hid (HBK2.out.below hb3)
  have HE3 := Lib.hid (HE2.out.trans (hb3.mono HE2.out.size))
  have hS3 := hSw.chg (gs := []) (Chg.of_below hb3) (by simp) (by simp) (by simp)
  refine wpAnyH_oneS2 (i := 5) rfl (by kernel_rfl) (by rfl) (fun K hK => ?_)
  go_simp
  refine hK.out _ _ (Rw1 w.heap.size cp SB (.pointer (some ⟨L.RB, 0, none⟩)) #[.int .i64 r.kind, .int .i64 r.epoch, .slice ma lm mc, .int .i64 r.pos, .int .i64 r.last, .slice ea le ec]) (fun _ h => h) (hS3) ?_
  clear hK K
  clear hSw hb3
  refine wpAnyH_oneS2 (i := 6) rfl (by kernel_rfl) (by rfl) (fun K hK => ?_)
  go_simp
  refine (bkRenew_own base L.RB R L.a L.ga d cs L.F _ 1 1 _ _ HBK3.out rfl HA3.out (fun z hz => by rw [List.mem_singleton.mp hz]; exact ⟨hyes, h6, hw⟩) (by omega)).mono ?_
  rintro e w4 ⟨rfl, a4, ga4, F4, hk4, hm4, hf4⟩
  have hfe : frms ([(⟨r, ma, mc, ea, ec, 0, w2.heap.size⟩ : Rl)].map encX) = frm (encR r) := frms_one _
  have hce : [(⟨r, ma, mc, ea, ec, 0, w2.heap.size⟩ : Rl)].map encX = [encR r] := rfl
  rw [hfe] at hk4 ⊢
  rw [hce] at hk4
  have HF : Hid (RetAp w base L.RB R L.a L.ga (wrt d (frm (encR r)) true) cs [encR r] L.F (.returned (.int .i64 (wrt d (frm (encR r)) true).1)) w4) := ⟨rfl, a4, ga4, F4, hk4, (Mv.of_below _ HE3.out).trans hm4, fun g hg => by
    rcases hf4 g hg with e | e
    · exact .inl e
    · exact .inr ⟨Nat.le_trans HE3.out.size e.1, e.2⟩⟩
  have hS4 := hS3.chg hm4.chg HCN.out HSN.out (fun e => by have := (HX.out.bk.mLt e).2; omega)
  clear hk4 hm4 hf4 hfe hce
  generalize wrt d (frm (encR r)) true = p at *
  refine hK.out _ _ (Rw1 w.heap.size cp SB (.pointer (some ⟨L.RB, 0, none⟩)) #[.int .i64 r.kind, .int .i64 r.epoch, .slice ma lm mc, .int .i64 r.pos, .int .i64 r.last, .slice ea le ec]) (fun _ h => h) (hS4) ?_
  clear hK K
  clear hS3
  have hSw := hS4
  refine wpAnyH_tkS2 (i := 7) 3 (v := ?_) rfl rfl (by kernel_rfl) (by kernel_rfl) (by kernel_rfl) (by rfl) hSw (fun wq hwq => ?_) ?_
  rotate_left
  · (have hx := True.intro; go_simp <;> with_reducible rfl)
  simp only [List.setIfInBounds_toArray, List.set_cons_zero, List.set_cons_succ]
  refine wpAnyH_done (by kernel_rfl) ?_ _
  refine NoPanic.normal ?_
  go_wp2
  go_ret
  exact HF.out

set_option maxRecDepth 100000 in
set_option maxHeartbeats 4000000 in
theorem write_ren (h : SoX w base SB R d cs s L) (hr : Kp (L.M SB R) w fun x => RecAt x ma mc ea ec r) (hlm : r.mem.length = lm) (hle : r.ents.length = le) (hs : s.now.ents.length ≤ 900000) (cp : Nat) (hcp : w.cell? ⟨cp, 0, none⟩ = some (.pointer (some ⟨SB, 0, none⟩))) (hcn : cp ∉ bkM L.RB R L.a L.ga) (h6 : r.ents.length ≤ 6) :
    Calls Tryz.prog 59 #[.pointer (some ⟨SB, 0, none⟩), .agg #[.int .i64 r.kind, .int .i64 r.epoch, .slice ma lm mc, .int .i64 r.pos, .int .i64 r.last, .slice ea le ec], .func (.func 61) #[] #[.pointer (some ⟨cp, 0, none⟩)]] w
      (RetWr w base SB R d cs s L r true) := by
  have HCP : Hid ((w.alloc (.cells #[.int .i64 r.kind, .int .i64 r.epoch, .slice ma lm mc, .int .i64 r.pos, .int .i64 r.last, .slice ea le ec] 35)).cell? ⟨cp, 0, none⟩ = some (.pointer (some ⟨SB, 0, none⟩))) := cell_later (below_one _ _) hcp
  have HWF0 := Lib.hid hr.now.wf
  have HLM := Lib.hid hlm
  have HLE := Lib.hid hle
  have HX := Lib.hid h
  have HK := Lib.hid hr
  have hbl := below_one w (.cells #[.int .i64 r.kind, .int .i64 r.epoch, .slice ma lm mc, .int .i64 r.pos, .int .i64 r.last, .slice ea le ec] 35)
  have HB0 : Hid (Bx (w.alloc (.cells #[.int .i64 r.kind, .int .i64 r.epoch, .slice ma lm mc, .int .i64 r.pos, .int .i64 r.last, .slice ea le ec] 35)) w.heap.size 35 #[.int .i64 r.kind, .int .i64 r.epoch, .slice ma lm mc, .int .i64 r.pos, .int .i64 r.last, .slice ea le ec]) := bx_new8 _ _ _
  have HE0 := Lib.hid hbl
  have HBL : Hid (w.heap.size < (w.alloc (.cells #[.int .i64 r.kind, .int .i64 r.epoch, .slice ma lm mc, .int .i64 r.pos, .int .i64 r.last, .slice ea le ec] 35)).heap.size) := by show _ < _; simp
  have k0 := HB0.out.cell 0 (.int .i64 r.kind) rfl
  have k1 := HB0.out.cell 1 (.int .i64 r.epoch) rfl
  have k2 := HB0.out.cell 2 (.slice ma lm mc) rfl
  have k3 := HB0.out.cell 3 (.int .i64 r.pos) rfl
  have k4 := HB0.out.cell 4 (.int .i64 r.last) rfl
  have k5 := HB0.out.cell 5 (.slice ea le ec) rfl
  clear h hr hlm hle hbl
  clear hcp
  go_enter Tryz.func59, Tryz.ntmps59
  go_wp2_with fail
  generalize (w.alloc (.cells #[.int .i64 r.kind, .int .i64 r.epoch, .slice ma lm mc, .int .i64 r.pos, .int .i64 r.last, .slice ea le ec] 35)) = w0 at *
  clear k0 k1 k2 k3 k4 k5
  cases hsn : sndR r
  · have HWQ : Hid (wq d r true = (2, d)) := wq_no d r true hsn
    refine (renew1_no (HX.out.below HE0.out) (HK.out.below HE0.out) HLM.out HLE.out cp HCP.out hsn).mono ?_
    rintro e w1 ⟨rfl, hb1⟩
    have HF : Hid (RetWr w base SB R d cs s L r true (.returned (.int .i64 2)) w1) := by
      have hb := HE0.out.trans (hb1.mono HE0.out.size)
      unfold RetWr
      rw [HWQ.out]
      exact ⟨rfl, L, HX.out.below hb, Mv.of_below _ hb⟩
    clear hb1
    go_wp2
    go_ret
    exact HF.out
  · have HWQ : Hid (wq d r true = wrt d (frm (encR r)) true) := wq_yes d r true hsn
    have HKD := Lib.hid (sndR_kind hsn)
    have HFR := Lib.hid (sndR_frag hsn)
    have HLS : Hid (lm ≤ 16 ∧ le ≤ 4096) := by have := sndR_lens r hsn; rw [HLM.out, HLE.out] at this; exact ⟨this.1, this.2.1⟩
    refine (renew1_yes (HX.out.below HE0.out) (HK.out.below HE0.out) HLM.out HLE.out cp HCP.out hcn hsn HWF0.out h6).mono ?_
    rw [← HWQ.out]
    rintro e w1 ⟨rfl, a1, ga1, F1, hk1, hm1, hf1⟩
    have HM1 := Lib.hid hm1
    have HF1 := Lib.hid hf1
    have HPF : Hid (∀ e' w', (∃ L' : Lay, SoX w' base SB R (wq d r true).2 (if (wq d r true).1 = 0 then [encR r] else cs) (if (wq d r true).1 = 0 then appS s r else s) L' ∧ Mv w w' (L.M SB R) (L'.M SB R)) → e' = .returned (.int .i64 (wq d r true).1) → RetWr w base SB R d cs s L r true e' w') := fun e' w' h1 h2 => ⟨h2, h1⟩
    clear hm1 hf1 HWQ hcn
    generalize wq d r true = p at *
    obtain ⟨n, d1⟩ := p
    by_cases hn : n = 0
    · subst hn
      have HK1B : Hid (Bk w1 base L.RB R a1 ga1 d1 [encR r] F1) := by have := hk1; rw [if_pos rfl] at this; exact this
      clear hk1
      have hn1 : ((0 : Int) != 0) = false := rfl
      have HMV : Hid (Mv w w1 (L.M SB R) (w.heap.size :: ({ L with a := a1, ga := ga1, F := F1 } : Lay).M SB R)) := by
        have hm0 : Mv w w1 (bkM L.RB R L.a L.ga) (bkM L.RB R a1 ga1) := (Mv.of_below _ HE0.out).trans HM1.out
        refine ⟨hm0.chg.mono fun g hg => Lay.mem.2 (.inr (.inl hg)), fun g hg => ?_⟩
        rcases List.mem_cons.mp hg with e | e
        · exact .inr (Nat.le_of_eq e.symm)
        · rcases Lay.mem.1 e with e | e | e
          · exact .inl (Lay.mem.2 (.inl e))
          · rcases hm0.now g e with e | e
            · exact .inl (Lay.mem.2 (.inr (.inl e)))
            · exact .inr e
          · exact .inl (Lay.mem.2 (.inr (.inr e)))
      have HK1 := Lib.hid (HK.out.mv HMV.out)
      have HI1 := Lib.hid HK1.out.now.mem
      have HWF := Lib.hid HK1.out.now.wf
      have HB1 : Hid (Bx w1 w.heap.size 35 #[.int .i64 r.kind, .int .i64 r.epoch, .slice ma lm mc, .int .i64 r.pos, .int .i64 r.last, .slice ea le ec]) := HB0.out.chg HM1.out.chg (fun e => by have := (HX.out.bk.mLt e).2; omega)
      have k1 := HB1.out.cell 1 (.int .i64 r.epoch) rfl
      have k2 := HB1.out.cell 2 (.slice ma lm mc) rfl
      go_wp2_with fail
      refine (copyConf_any r.epoch ma mc lm r.mem _ HLM.out (by have := HLS.out; omega) HI1.out).mono ?_
      rintro e w2 ⟨a2, c2, rfl, hr2, hb2⟩
      have HR2 := Lib.hid hr2
      have HE2 := Lib.hid hb2
      have HB2 := Lib.hid (HB1.out.chg (gs := []) (Chg.of_below hb2) (by simp))
      have HK2 := Lib.hid (HK1.out.below hb2)
      clear hr2 hb2 k1 k2 HB1
      have k1 := HB2.out.cell 1 (.int .i64 r.epoch) rfl
      have k2 := HB2.out.cell 2 (.slice ma lm mc) rfl
      have f1 := HB2.out.free 1
      have f2 := HB2.out.free 2
      have k5 := HB2.out.cell 5 (.slice ea le ec) rfl
      have HB3 : Hid (Bx ((w2.setCell ⟨w.heap.size, 1, none⟩ (.int .i64 r.epoch)).setCell ⟨w.heap.size, 2, none⟩ (.slice a2 lm c2)) w.heap.size 35 #[.int .i64 r.kind, .int .i64 r.epoch, .slice a2 lm c2, .int .i64 r.pos, .int .i64 r.last, .slice ea le ec]) := (HB2.out.set 1 _ rfl).set 2 _ rfl
      have HC3 : Hid (Chg [w.heap.size] w2 ((w2.setCell ⟨w.heap.size, 1, none⟩ (.int .i64 r.epoch)).setCell ⟨w.heap.size, 2, none⟩ (.slice a2 lm c2))) := (chg_set1 _ _ _ _).trans (chg_set1 _ _ _ _)
      have HS3 : Hid (((w2.setCell ⟨w.heap.size, 1, none⟩ (.int .i64 r.epoch)).setCell ⟨w.heap.size, 2, none⟩ (.slice a2 lm c2)).heap.size = w2.heap.size) := by show _ = _; simp
      have HN3 : Hid (EnsAt ((w2.setCell ⟨w.heap.size, 1, none⟩ (.int .i64 r.epoch)).setCell ⟨w.heap.size, 2, none⟩ (.slice a2 lm c2)) ea ec r.ents) := (HK2.out [w.heap.size] _ HC3.out (fun g hg => .inl (by simp at hg; simp [hg]))).ents
      go_wp2_with fail
      generalize ((w2.setCell ⟨w.heap.size, 1, none⟩ (.int .i64 r.epoch)).setCell ⟨w.heap.size, 2, none⟩ (.slice a2 lm c2)) = w3 at *
      refine (copyEnts_any ea ec le r.ents _ HLE.out (by have := HLS.out; omega) HN3.out HFR.out).mono ?_
      rintro e w4 ⟨a4, c4, rfl, hr4, hb4⟩
      rw [HLE.out]
      have HR4 := Lib.hid hr4
      have HE4 := Lib.hid hb4
      have HB4 := Lib.hid (HB3.out.chg (gs := []) (Chg.of_below hb4) (by simp))
      clear hr4 hb4 HB2 k1 k2 f1 f2 k5 HB3
      have k5 := HB4.out.cell 5 (.slice ea le ec) rfl
      have f5 := HB4.out.free 5
      have HB5 : Hid (Bx (w4.setCell ⟨w.heap.size, 5, none⟩ (.slice a4 le c4)) w.heap.size 35 #[.int .i64 r.kind, .int .i64 r.epoch, .slice a2 lm c2, .int .i64 r.pos, .int .i64 r.last, .slice a4 le c4]) := HB4.out.set 5 _ rfl
      have HC5 := Lib.hid (chg_set1 w4 w.heap.size 5 (.slice a4 le c4))
      have HS5 : Hid ((w4.setCell ⟨w.heap.size, 5, none⟩ (.slice a4 le c4)).heap.size = w4.heap.size) := by show _ = _; simp
      have q0 := HB5.out.cell 0 (.int .i64 r.kind) rfl
      have q1 := HB5.out.cell 1 (.int .i64 r.epoch) rfl
      have q2 := HB5.out.cell 2 (.slice a2 lm c2) rfl
      have q3 := HB5.out.cell 3 (.int .i64 r.pos) rfl
      have q4 := HB5.out.cell 4 (.int .i64 r.last) rfl
      have q5 := HB5.out.cell 5 (.slice a4 le c4) rfl
      have HWS : Hid (w.heap.size < w1.heap.size) := Nat.lt_of_lt_of_le HBL.out HM1.out.chg.size
      have HFN := Lib.hid (wr_fin (r := r) (w5 := w4.setCell ⟨w.heap.size, 5, none⟩ (.slice a4 le c4)) HX.out (Nat.le_refl _) HE0.out HBL.out HK1B.out HM1.out HF1.out
        ((((Chg.of_below HE2.out).trans HC3.out).trans (Chg.of_below HE4.out)).trans HC5.out)
        (HR4.out.chg HC5.out (fun g hg => by have h1 := HWS.out; have h2 := HE2.out.size; have h3 := HS3.out; simp at hg; omega)) (by have h2 := HE2.out.size; have h3 := HS3.out; omega)
        (((HR2.out.chg HC3.out (fun g hg => by have h1 := HWS.out; simp at hg; omega)).below HE4.out).chg HC5.out (fun g hg => by have h1 := HWS.out; simp at hg; omega)) (Nat.le_of_eq HS3.out.symm) (by rw [HS5.out]; exact HE4.out.size) HWF.out)
      clear HB4 HB5 HR2 HR4 HE2 HE4 HC3 HC5 HK1 HK2 HN3 HI1 HS3 HS5 HWS HMV
      go_wp2_with fail
      generalize (w4.setCell ⟨w.heap.size, 5, none⟩ (.slice a4 le c4)) = w5 at *
      refine (apply_any HFN.out.1 HFN.out.2.2.1 HLM.out HLE.out hs (by have := HLS.out; omega) HKD.out).mono ?_
      rintro e w6 ⟨rfl, L6, hx6, hc6, -, hm6⟩
      have HMF : Hid (Mv w w6 (L.M SB R) (L6.M SB R)) := by
        have h1 := HFN.out.2.1
        have h2 : Mv w w5 (L.M SB R) (blk a4 ++ ({ L with a := a1, ga := ga1, F := F1 } : Lay).M SB R) := ⟨h1.chg, fun g hg => by
          rcases List.mem_append.mp hg with e | e
          · exact .inr (HFN.out.2.2.2 g e)
          · exact h1.now g e⟩
        exact h2.trans ⟨hc6.mono fun g hg => List.mem_append_right _ hg, fun g hg => by
          rcases hm6 g hg with e | e | e
          · exact .inl (List.mem_append_right _ e)
          · exact .inl (List.mem_append_left _ e)
          · exact .inr e⟩
      have HXF := Lib.hid hx6
      clear hx6 hc6 hm6 q0 q1 q2 q3 q4 q5 k5 f5
      have HF := Lib.hid (HPF.out (.returned (.int .i64 0)) w6 ⟨L6, by rw [if_pos trivial, if_pos trivial]; exact HXF.out, HMF.out⟩ rfl)
      go_wp2
      go_ret
      exact HF.out
    · have hn1 : (n != 0) = true := by simp [hn]
      have HF := Lib.hid (HPF.out (.returned (.int .i64 n)) w1 ⟨{ L with a := a1, ga := ga1, F := F1 }, by
        rw [if_neg hn] at hk1
        rw [if_neg hn, if_neg hn]
        have hb := HE0.out.size
        exact (HX.out.book hk1 ((Mv.of_below _ HE0.out).trans HM1.out) (fun g hg => by
          rcases HF1.out g hg with e | e
          · exact .inl e
          · exact .inr ⟨by omega, e.2⟩))⟩ rfl)
      clear hk1 hn
      go_wp2
      go_ret
      exact HF.out

end

end Go.Proofs.YtdgpbdedaafdiaaGreat
