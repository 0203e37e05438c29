/-
  store: apply.
-/
import Derived.Test.YtdgpbdedaafdiaaWalksO3
import Derived.Deep.DeepCutAuto
namespace Go.Proofs.Ytdgpbdedaafdiaa
open Go.RowKit



theorem chg_own {w w' : World} {a : Option Addr} {n c : Nat} (h : w.grownBy w' (Value.ownBlock (.slice a n c))) : Chg (blk a) w w' := by
  rcases a with _ | ad
  · exact Chg.of_new h
  · exact Chg.of_grown h

section
variable {w w' : World} {base SB R : Nat} {d : DS} {cs : List (List Nat)} {s s' : Ss} {L L' : Lay}

/-- Its own cells have turned. -/
theorem SoX.put (h : SoX w base SB R d cs s L) (e1 : L'.RB = L.RB) (e2 : L'.a = L.a) (e3 : L'.ga = L.ga) (e4 : L'.F = L.F) (hb : Bx w' SB 61 (L'.cells s')) (hc : Chg [SB] w w')
    (own : Er w base (L'.M SB R) L'.na L'.nc s'.now.ents) (mem : Kp (L'.M SB R) w fun x => IntsAt x L'.ma L'.mc s'.now.mem) (stg : Kp (L'.M SB R) w fun x => RecAt x L'.xa L'.xc L'.ya L'.yc s'.staged)
    (hn : ∀ g ∈ blk L'.na, g ≠ SB ∧ g ∉ bkM L.RB R L.a L.ga ∧ g ∉ L.F) : SoX w' base SB R d cs s' L' := by
  have hS : ∀ g ∈ [SB], g ∈ L'.M SB R := fun g hg => Lay.mem.2 (.inl (by simpa using hg))
  have hm : Mv w w' (L'.M SB R) (L'.M SB R) := ⟨hc.mono hS, fun _ hg => .inl hg⟩
  refine ⟨?_, hb, own.go hc (fun g hg => .inl (hS g hg)) (fun g hg e => (hn g hg).1 (by simpa using e)) (fun _ hg => .inl hg), mem.mv hm, stg.mv hm, ?_, ?_, h.base, ?_⟩
  · rw [e1, e2, e3, e4]
    exact h.bk.apart hc fun g hg => by
      have : g = SB := by simpa using hg
      subst this
      exact ⟨h.nS.1, h.nS.2.2⟩
  · rw [e1, e2, e3, e4]
    exact ⟨h.nS.1, fun e => (hn SB e).1 rfl, h.nS.2.2⟩
  · rw [e1, e2, e3, e4]
    exact fun g hg => (hn g hg).2
  · rw [e4]
    exact fun g hg => Nat.lt_of_lt_of_le (h.fLt g hg) hc.size

/-- Entries have been appended to its own. -/
theorem SoX.grow {w2 : World} {va : Option Addr} {vc n k : Nat} {xs ys : List El} {es : List Pe} (h : SoX w base SB R d cs s L) (hx : xs.map (·.p) = s.now.ents) (hy : ys.map (·.p) = es) (hfx : ∀ x ∈ xs, Kp (L.M SB R) w fun z => SeenAt z x.loc x.cap x.p.frag)
    (hfy : ∀ x ∈ ys, Kp (L.M SB R) w fun z => SeenAt z x.loc x.cap x.p.frag) (hwy : ∀ e ∈ es, e.Wf) (hn : (s.now.ents ++ es).length = n) (ho : w2.ownsRow base 32 8 (.slice va n vc) n (evals xs ++ evals ys))
    (hg : w.grownBy w2 (Value.ownBlock (.slice L.na k L.nc))) (hat : ∀ g, Value.ownBlock (.slice va n vc) = some g → Value.ownBlock (.slice L.na k L.nc) = some g ∨ w.heap.size ≤ g) :
    SoX (w2.setCell ⟨SB, 6, none⟩ (.slice va n vc)) base SB R d cs { s with now := { s.now with ents := s.now.ents ++ es } } { L with na := va, nc := vc } ∧ Chg (L.M SB R) w (w2.setCell ⟨SB, 6, none⟩ (.slice va n vc)) ∧ ∀ g ∈ ({ L with na := va, nc := vc } : Lay).M SB R, g ∈ L.M SB R ∨ w.heap.size ≤ g := by
  have hva : ∀ g ∈ blk va, g ∈ blk L.na ∨ w.heap.size ≤ g := fun g hg' => by
    rcases hat g (blk_own hg') with h1 | h1
    · exact .inl (own_blk h1)
    · exact .inr h1
  have hc1 := chg_own hg
  have hc : Chg (SB :: blk L.na) w (w2.setCell ⟨SB, 6, none⟩ (.slice va n vc)) := (hc1.mono fun g hg' => List.mem_cons_of_mem _ hg').trans ((chg_set1 w2 SB 6 _).mono (by simp))
  have hsub : ∀ g ∈ SB :: blk L.na, g ∈ L.M SB R := fun g hg' => by
    rcases List.mem_cons.mp hg' with e | e
    · exact Lay.mem.2 (.inl e)
    · exact Lay.mem.2 (.inr (.inr e))
  have hM : ∀ g ∈ ({ L with na := va, nc := vc } : Lay).M SB R, g ∈ L.M SB R ∨ w.heap.size ≤ g := fun g hg' => by
    rcases Lay.mem.1 hg' with e | e | e
    · exact .inl (Lay.mem.2 (.inl e))
    · exact .inl (Lay.mem.2 (.inr (.inl e)))
    · rcases hva g e with e | e
      · exact .inl (Lay.mem.2 (.inr (.inr e)))
      · exact .inr e
  have hmv : Mv w (w2.setCell ⟨SB, 6, none⟩ (.slice va n vc)) (L.M SB R) (({ L with na := va, nc := vc } : Lay).M SB R) := ⟨hc.mono hsub, hM⟩
  have hSv : SB ∉ blk va := fun e => by
    rcases hva SB e with e | e
    · exact h.nS.2.1 e
    · have := bx_lt h.box; omega
  refine ⟨⟨?_, ?_, ⟨⟨xs ++ ys, ?_, ?_, fun x hx' => ?_⟩, fun e he => ?_⟩, h.mem.mv hmv, h.stg.mv hmv, ⟨h.nS.1, hSv, h.nS.2.2⟩, fun g hg' => ?_, h.base, fun g hg' => Nat.lt_of_lt_of_le (h.fLt g hg') hc.size⟩, hc.mono hsub, hM⟩
  · refine h.bk.apart hc fun g hg' => ?_
    rcases List.mem_cons.mp hg' with e | e
    · rw [e]; exact ⟨h.nS.1, h.nS.2.2⟩
    · exact h.nN g e
  · refine (h.box.chg hc1 h.nS.2.1).set 6 _ ?_
    show (L.cells s).setIfInBounds 6 (.slice va n vc) = _
    rw [← hn]
    rfl
  · rw [List.map_append, hx, hy]
  · have hl : (xs ++ ys).length = n := by rw [← hn, ← hx, ← hy, ← List.map_append, List.length_map]
    rw [hl, evals_app]
    exact (chg_set1 w2 SB 6 _).owns ho fun g e => by
      have := hSv
      intro e'
      have : g = SB := by simpa using e'
      subst this
      exact hSv (own_blk e)
  · rcases List.mem_append.mp hx' with h1 | h1
    · exact (hfx x h1).mv hmv
    · exact (hfy x h1).mv hmv
  · rcases List.mem_append.mp he with h1 | h1
    · have := h.own.wf; exact this e h1
    · exact hwy e h1
  · rcases hva g hg' with e | e
    · exact h.nN g e
    · refine ⟨fun e' => ?_, fun e' => ?_⟩
      · have := (h.bk.mLt e').2; omega
      · have := h.fLt g e'; omega

end

/-- What apply leaves. -/
def RetAy (w : World) (base SB R : Nat) (d : DS) (cs : List (List Nat)) (s' : Ss) (L : Lay) (ea : Option Addr) (e : Ending) (w' : World) : Prop :=
  e = .returned (.tuple #[]) ∧ ∃ L' : Lay, SoX w' base SB R d cs s' L' ∧ Chg (L.M SB R) w w' ∧ L'.F = L.F ∧ ∀ g ∈ L'.M SB R, g ∈ L.M SB R ∨ g ∈ blk ea ∨ w.heap.size ≤ g

section
variable {w : World} {base SB R : Nat} {d : DS} {cs : List (List Nat)} {s : Ss} {L : Lay} {ma ea : Option Addr} {mc ec lm le : Nat} {r : Pr}

set_option maxRecDepth 100000 in
set_option maxHeartbeats 2000000 in
theorem apply_1 (h : SoX w base SB R d cs s L) (hr : Ry w base (L.M SB R) L.F ma mc ea ec r) (hle : r.ents.length = le) (hs : s.now.ents.length ≤ 900000) (hl : le ≤ 10000) :
    Calls Try.prog 27 #[.pointer (some ⟨SB, 0, none⟩), .agg #[.int .i64 1, .int .i64 r.epoch, .slice ma lm mc, .int .i64 r.pos, .int .i64 r.last, .slice ea le ec]] w
      (RetAy w base SB R d cs { s with now := { s.now with ents := s.now.ents ++ r.ents } } L ea) := by
  obtain ⟨n, hn⟩ : ∃ n, s.now.ents.length = n := ⟨_, rfl⟩
  rw [hn] at hs
  have HN := Lib.hid hn
  have HLE := Lib.hid hle
  have HX0 := Lib.hid h
  have hbl := below_one w (.cells #[.int .i64 1, .int .i64 r.epoch, .slice ma lm mc, .int .i64 r.pos, .int .i64 r.last, .slice ea le ec] 38)
  have HB : Hid (Bx (w.alloc (.cells #[.int .i64 1, .int .i64 r.epoch, .slice ma lm mc, .int .i64 r.pos, .int .i64 r.last, .slice ea le ec] 38)) w.heap.size 38 #[.int .i64 1, .int .i64 r.epoch, .slice ma lm mc, .int .i64 r.pos, .int .i64 r.last, .slice ea le ec]) := bx_new8 _ _ _
  have HE0 := Lib.hid hbl
  have HX := Lib.hid (h.below hbl)
  have HR := Lib.hid (hr.below hbl)
  have hSB := bx_lt h.box
  clear h hr hle hn hbl
  go_enter Try.func27, Try.ntmps27
  have k0 := HB.out.cell 0 (.int .i64 1) rfl
  go_wp2_with fail
  generalize (w.alloc (.cells #[.int .i64 1, .int .i64 r.epoch, .slice ma lm mc, .int .i64 r.pos, .int .i64 r.last, .slice ea le ec] 38)) = w1 at *
  have hne : w.heap.size ≠ SB := by omega
  have hB5 : w1.cell? ⟨w.heap.size, 5, none⟩ = some (.slice ea le ec) := HB.out.cell 5 _ rfl
  refine wp_region_S2 (fun x => x.cell? ⟨w.heap.size, 5, none⟩ = some (.slice ea le ec)) (by kernel_rfl) ?_
  have hSw : w1.drew.cell? ⟨w.heap.size, 5, none⟩ = some (.slice ea le ec) := hB5
  have hbd : Below w1.heap.size w1 w1.drew := Below.drew (Below.refl _ w1)
  have HX2 := Lib.hid (HX.out.below hbd)
  have HR2 := Lib.hid (HR.out.below hbd)
  have HE2 : Hid (Below w.heap.size w w1.drew) := HE0.out.drew
  clear hbd HX HR HB k0 hB5
  generalize w1.drew = w2 at *
  refine wpAnyH_tkS2 (i := 0) 8 (v := ?_) rfl rfl (by kernel_rfl) (by kernel_rfl) (by kernel_rfl) (by rfl) hSw (fun wq hwq => ?_) ?_
  rotate_left
  · (have hx := True.intro; go_simp <;> with_reducible rfl)
  simp only [List.setIfInBounds_toArray, List.set_cons_zero, List.set_cons_succ]
  refine wpAnyH_tkS2 (i := 1) 9 (v := ?_) rfl rfl (by kernel_rfl) (by kernel_rfl) (by kernel_rfl) (by rfl) hSw (fun wq hwq => ?_) ?_
  rotate_left
  · (have hx := True.intro; go_simp <;> with_reducible rfl)
  simp only [List.setIfInBounds_toArray, List.set_cons_zero, List.set_cons_succ]
  refine wpAnyH_tkS2 (i := 2) 10 (v := ?_) rfl rfl (by kernel_rfl) (by kernel_rfl) (by kernel_rfl) (by rfl) hSw (fun wq hwq => ?_) ?_
  rotate_left
  · (have hx := True.intro; go_simp <;> with_reducible rfl)
  simp only [List.setIfInBounds_toArray, List.set_cons_zero, List.set_cons_succ]
  refine wpAnyH_tkS2 (i := 3) 11 (v := ?_) rfl rfl (by kernel_rfl) (by kernel_rfl) (by kernel_rfl) (by rfl) hSw (fun wq hwq => ?_) ?_
  rotate_left
  · (have hx := True.intro; go_simp <;> with_reducible rfl)
  simp only [List.setIfInBounds_toArray, List.set_cons_zero, List.set_cons_succ]
  refine wpAnyH_tkS2 (i := 4) 12 (v := ?_) rfl rfl (by kernel_rfl) (by kernel_rfl) (by kernel_rfl) (by rfl) hSw (fun wq hwq => ?_) ?_
  rotate_left
  · (have hx := True.intro; go_simp <;> with_reducible rfl)
  simp only [List.setIfInBounds_toArray, List.set_cons_zero, List.set_cons_succ]
  refine wpAnyH_tkS2 (i := 6) 14 (v := ?_) rfl rfl (by kernel_rfl) (by kernel_rfl) (by kernel_rfl) (by rfl) hSw (fun wq hwq => ?_) ?_
  rotate_left
  · (have hx := True.intro; go_simp <;> with_reducible rfl)
  simp only [List.setIfInBounds_toArray, List.set_cons_zero, List.set_cons_succ]
  refine wpAnyH_tkS2 (i := 7) 15 (v := ?_) rfl rfl (by kernel_rfl) (by kernel_rfl) (by kernel_rfl) (by rfl) hSw (fun wq hwq => ?_) ?_
  rotate_left
  · (have hx := hwq; go_simp <;> with_reducible rfl)
  simp only [List.setIfInBounds_toArray, List.set_cons_zero, List.set_cons_succ]
  have c6 : w2.cell? ⟨SB, 6, none⟩ = some (.slice L.na n L.nc) := HX2.out.box.cell 6 _ (by rw [← HN.out]; rfl)
  refine wpAnyH_oneS2 (i := 5) rfl (by kernel_rfl) (by rfl) (fun K hK => ?_)
  go_simp
  refine hK.out _ _ (fun x => x.cell? ⟨w.heap.size, 5, none⟩ = some (.slice ea le ec)) (fun _ h => h) (hSw) ?_
  clear hK K
  obtain ⟨⟨xs, hxs, hox, hfx⟩, _⟩ := HX2.out.own
  obtain ⟨⟨ys, hys, hoy, hfy⟩, hwy⟩ := HR2.out.ents
  have HXS := Lib.hid hxs
  have HYS := Lib.hid hys
  have HFX := Lib.hid hfx
  have HFY := Lib.hid hfy
  have HWY := Lib.hid hwy
  have hxl : xs.length = n := by rw [← HN.out, ← hxs, List.length_map]
  have hyl : ys.length = le := by rw [← HLE.out, ← hys, List.length_map]
  rw [hxl] at hox
  rw [hyl] at hoy
  have HOX := Lib.hid hox
  have HQ := Lib.hid (row_cells hoy (by rw [evals_len, hyl]))
  have HYL := Lib.hid hyl
  have hbs : base ≤ w2.heap.size := by have h1 := HX2.out.base; have h2 := bx_lt HX2.out.box; omega
  clear hxs hys hfx hfy hwy hox hoy hxl hyl
  refine wpAnyH_oneS2 (i := 8) rfl (by kernel_rfl) (by rfl) (fun K hK => ?_)
  refine wp_appRawAt (.tmp 13) (.tmp 15) 36 32 rfl Try.underlying36 _ 8 88 infoE rfl (by omega) (by omega) base L.na L.nc n (evals xs) rfl HOX.out ea le ec (evals ys) rfl (by rw [evals_len, HYL.out]) HQ.out (evals_one ys) (by omega) hbs ?_
  intro va vc w3 ho hg hat
  have HCH := Lib.hid (chg_own hg)
  have HF := Lib.hid (HX2.out.grow (n := n + le) HXS.out HYS.out HFX.out (fun x hx => (HFY.out x hx).sub fun _ hg => .inl (List.mem_append_right _ hg)) HWY.out (by rw [List.length_append, HN.out, HLE.out]) ho hg hat)
  have hSB3 : w3.cell? ⟨SB, 6, none⟩ = some (.slice L.na n L.nc) := HCH.out.cell c6 HX2.out.nS.2.1
  have hfr : w3.frozen? ⟨SB, 6, none⟩ = false := (HX2.out.box.chg HCH.out HX2.out.nS.2.1).free 6
  have hS3 : w3.cell? ⟨w.heap.size, 5, none⟩ = some (.slice ea le ec) := HCH.out.cell hSw (fun e => by
    have h1 := HX0.out.own.lt (g := w.heap.size) e
    omega)
  clear ho hg hat
  go_simp
  refine hK.out _ _ (fun x => x.cell? ⟨w.heap.size, 5, none⟩ = some (.slice ea le ec)) (fun _ h => h) (hS3) ?_
  clear hK K
  clear hSw c6
  have hSw := hS3
  refine wpAnyH_tkS2 (i := 9) 17 (v := ?_) rfl rfl (by kernel_rfl) (by kernel_rfl) (by kernel_rfl) (by rfl) hSw (fun wq hwq => ?_) ?_
  rotate_left
  · (have hx := True.intro; go_simp <;> with_reducible rfl)
  simp only [List.setIfInBounds_toArray, List.set_cons_zero, List.set_cons_succ]
  refine wpAnyH_tkS2 (i := 10) 18 (v := ?_) rfl rfl (by kernel_rfl) (by kernel_rfl) (by kernel_rfl) (by rfl) hSw (fun wq hwq => ?_) ?_
  rotate_left
  · (have hx := True.intro; go_simp <;> with_reducible rfl)
  simp only [List.setIfInBounds_toArray, List.set_cons_zero, List.set_cons_succ]
  refine wpAnyH_tkS2 (i := 11) 19 (v := ?_) rfl rfl (by kernel_rfl) (by kernel_rfl) (by kernel_rfl) (by rfl) hSw (fun wq hwq => ?_) ?_
  rotate_left
  · (have hx := True.intro; go_simp <;> with_reducible rfl)
  simp only [List.setIfInBounds_toArray, List.set_cons_zero, List.set_cons_succ]
  refine wpAnyH_oneS2 (i := 12) rfl (by kernel_rfl) (by rfl) (fun K hK => ?_)
  go_simp
  have hS4 : (w3.setCell ⟨SB, 6, none⟩ (.slice va (n + le) vc)).cell? ⟨w.heap.size, 5, none⟩ = some (.slice ea le ec) := by
    rw [World.cell?_setCell_other _ _ _ _ (by simp)]
    exact hS3
  refine hK.out _ _ (fun x => x.cell? ⟨w.heap.size, 5, none⟩ = some (.slice ea le ec)) (fun _ h => h) (hS4) ?_
  clear hK K
  refine wpAnyH_done (by kernel_rfl) ?_ _
  refine NoPanic.normal ?_
  have HFIN : Hid (RetAy w base SB R d cs { s with now := { s.now with ents := s.now.ents ++ r.ents } } L ea (.returned (.tuple #[])) (w3.setCell ⟨SB, 6, none⟩ (.slice va (n + le) vc))) :=
    ⟨rfl, _, HF.out.1, (Chg.of_below HE2.out).trans HF.out.2.1, rfl, fun g hg => by
      rcases HF.out.2.2 g hg with h1 | h1
      · exact .inl h1
      · exact .inr (.inr (Nat.le_trans HE2.out.size h1))⟩
  go_wp2
  go_end0
  exact HFIN.out

set_option maxRecDepth 100000 in
set_option maxHeartbeats 2000000 in
theorem apply_2 (h : SoX w base SB R d cs s L) (k : Int) (hk : k = 2) (x1 : Int) (x3 x4 : Int) :
    Calls Try.prog 27 #[.pointer (some ⟨SB, 0, none⟩), .agg #[.int .i64 k, .int .i64 x1, .slice ma lm mc, .int .i64 x3, .int .i64 x4, .slice ea le ec]] w
      (RetAy w base SB R d cs { s with sealed := true } L ea) := by
  have d1 : (k == 1) = false := by rw [hk]; rfl
  have d2 : (k == 2) = true := by rw [hk]; rfl
  have hbl := below_one w (.cells #[.int .i64 k, .int .i64 x1, .slice ma lm mc, .int .i64 x3, .int .i64 x4, .slice ea le ec] 38)
  have HB : Hid (Bx (w.alloc (.cells #[.int .i64 k, .int .i64 x1, .slice ma lm mc, .int .i64 x3, .int .i64 x4, .slice ea le ec] 38)) w.heap.size 38 #[.int .i64 k, .int .i64 x1, .slice ma lm mc, .int .i64 x3, .int .i64 x4, .slice ea le ec]) := bx_new8 _ _ _
  have HE0 := Lib.hid hbl
  have HX := Lib.hid (h.below hbl)
  have k0 := HB.out.cell 0 (.int .i64 k) rfl
  have c7 : (w.alloc (.cells #[.int .i64 k, .int .i64 x1, .slice ma lm mc, .int .i64 x3, .int .i64 x4, .slice ea le ec] 38)).cell? ⟨SB, 7, none⟩ = some (.bool s.sealed) := HX.out.box.cell 7 _ rfl
  have f7 := HX.out.box.free 7
  have HF : Hid (SoX ((w.alloc (.cells #[.int .i64 k, .int .i64 x1, .slice ma lm mc, .int .i64 x3, .int .i64 x4, .slice ea le ec] 38)).setCell ⟨SB, 7, none⟩ (.bool true)) base SB R d cs { s with sealed := true } L) :=
    HX.out.put (L' := L) rfl rfl rfl rfl (HX.out.box.set 7 _ rfl) (chg_set1 _ SB 7 _) HX.out.own HX.out.mem HX.out.stg (fun g hg => ⟨fun e => HX.out.nS.2.1 (e ▸ hg), HX.out.nN g hg⟩)
  have HC : Hid (Chg (L.M SB R) w ((w.alloc (.cells #[.int .i64 k, .int .i64 x1, .slice ma lm mc, .int .i64 x3, .int .i64 x4, .slice ea le ec] 38)).setCell ⟨SB, 7, none⟩ (.bool true))) := (Chg.of_below HE0.out).trans ((chg_set1 _ SB 7 _).mono fun g hg => Lay.mem.2 (.inl (by simpa using hg)))
  clear h hbl hk HX HB HE0
  go_enter Try.func27, Try.ntmps27
  go_wp2
  go_end0
  exact ⟨rfl, L, HF.out, HC.out, rfl, fun g hg => .inl hg⟩

set_option maxRecDepth 100000 in
set_option maxHeartbeats 2000000 in
theorem apply_3 (h : SoX w base SB R d cs s L) (hr : Ry w base (L.M SB R) L.F ma mc ea ec r) (hlm : r.mem.length = lm) (hle : r.ents.length = le) (hk : r.kind = 3) :
    Calls Try.prog 27 #[.pointer (some ⟨SB, 0, none⟩), .agg #[.int .i64 r.kind, .int .i64 r.epoch, .slice ma lm mc, .int .i64 r.pos, .int .i64 r.last, .slice ea le ec]] w
      (RetAy w base SB R d cs { s with staged := r } L ea) := by
  have d1 : (r.kind == 1) = false := by rw [hk]; rfl
  have d2 : (r.kind == 2) = false := by rw [hk]; rfl
  have d3 : (r.kind == 3) = true := by rw [hk]; rfl
  have HLM := Lib.hid hlm
  have HLE := Lib.hid hle
  have hbl := below_one w (.cells #[.int .i64 r.kind, .int .i64 r.epoch, .slice ma lm mc, .int .i64 r.pos, .int .i64 r.last, .slice ea le ec] 38)
  have HB : Hid (Bx (w.alloc (.cells #[.int .i64 r.kind, .int .i64 r.epoch, .slice ma lm mc, .int .i64 r.pos, .int .i64 r.last, .slice ea le ec] 38)) w.heap.size 38 #[.int .i64 r.kind, .int .i64 r.epoch, .slice ma lm mc, .int .i64 r.pos, .int .i64 r.last, .slice ea le ec]) := bx_new8 _ _ _
  have HE0 := Lib.hid hbl
  have HX := Lib.hid (h.below hbl)
  have HR := Lib.hid (hr.below hbl).recAt
  clear h hbl hk hr hlm hle
  go_enter Try.func27, Try.ntmps27
  have k0 := HB.out.cell 0 (.int .i64 r.kind) rfl
  have k1 := HB.out.cell 1 (.int .i64 r.epoch) rfl
  have k2 := HB.out.cell 2 (.slice ma lm mc) rfl
  have k3 := HB.out.cell 3 (.int .i64 r.pos) rfl
  have k4 := HB.out.cell 4 (.int .i64 r.last) rfl
  have k5 := HB.out.cell 5 (.slice ea le ec) rfl
  go_wp2_with (refine wpList_st 38 6 SB 8 61 #[.int .i64 r.kind, .int .i64 r.epoch, .slice ma lm mc, .int .i64 r.pos, .int .i64 r.last, .slice ea le ec] (L.cells s) (Lay.cells { L with xa := ma, xc := mc, ya := ea, yc := ec } { s with staged := r }) (.tmp 30) (.tmp 28) rfl rfl rfl rfl rfl (by kernel_rfl) rfl HX.out.box (by show 14 ≤ 14; omega) (by simp [Value.oneCell']) (by rw [← HLM.out, ← HLE.out]; rfl) ?_; intro w3 hb3 hc3)
  have HF := Lib.hid (HX.out.put (L' := { L with xa := ma, xc := mc, ya := ea, yc := ec }) (s' := { s with staged := r }) rfl rfl rfl rfl hb3 hc3 HX.out.own HX.out.mem HR.out (fun g hg => ⟨fun e => HX.out.nS.2.1 (e ▸ hg), HX.out.nN g hg⟩))
  have HC : Hid (Chg (L.M SB R) w w3) := (Chg.of_below HE0.out).trans (hc3.mono fun g hg => Lay.mem.2 (.inl (by simpa using hg)))
  clear hb3 hc3
  go_wp2
  go_end0
  exact ⟨rfl, _, HF.out, HC.out, rfl, fun g hg => .inl hg⟩

theorem rec0_at (x : World) : RecAt x none 0 none 0 pr0 := ⟨IntsAt.nil (Nat.zero_le _), EnsAt.nil (Nat.zero_le _), pr0_wf14⟩

set_option maxRecDepth 100000 in
set_option maxHeartbeats 2000000 in
theorem apply_4 (h : SoX w base SB R d cs s L) (hr : Ry w base (L.M SB R) L.F ma mc ea ec r) (hlm : r.mem.length = lm) (hle : r.ents.length = le) (hk : r.kind = 4) :
    Calls Try.prog 27 #[.pointer (some ⟨SB, 0, none⟩), .agg #[.int .i64 r.kind, .int .i64 r.epoch, .slice ma lm mc, .int .i64 r.pos, .int .i64 r.last, .slice ea le ec]] w
      (RetAy w base SB R d cs ⟨r, false, pr0⟩ L ea) := by
  have d1 : (r.kind == 1) = false := by rw [hk]; rfl
  have d2 : (r.kind == 2) = false := by rw [hk]; rfl
  have d3 : (r.kind == 3) = false := by rw [hk]; rfl
  have d4 : (r.kind == 4) = true := by rw [hk]; rfl
  have HLM := Lib.hid hlm
  have HLE := Lib.hid hle
  have hbl := below_one w (.cells #[.int .i64 r.kind, .int .i64 r.epoch, .slice ma lm mc, .int .i64 r.pos, .int .i64 r.last, .slice ea le ec] 38)
  have HB : Hid (Box (w.alloc (.cells #[.int .i64 r.kind, .int .i64 r.epoch, .slice ma lm mc, .int .i64 r.pos, .int .i64 r.last, .slice ea le ec] 38)) w.heap.size #[.int .i64 r.kind, .int .i64 r.epoch, .slice ma lm mc, .int .i64 r.pos, .int .i64 r.last, .slice ea le ec]) := box_new _ _ _ _ rfl
  have HE0 := Lib.hid hbl
  have HX := Lib.hid (h.below hbl)
  have HR := Lib.hid (hr.below hbl)
  have hSB := bx_lt h.box
  clear h hbl hk hr hlm hle
  go_enter Try.func27, Try.ntmps27
  have k0 := (box6 HB.out).1
  go_wp2_with fail
  generalize (w.alloc (.cells #[.int .i64 r.kind, .int .i64 r.epoch, .slice ma lm mc, .int .i64 r.pos, .int .i64 r.last, .slice ea le ec] 38)) = w1 at *
  have hne : w.heap.size ≠ SB := by omega
  have hS0 : w1.cell? ⟨SB, 0, none⟩ = some (.pointer (some ⟨L.RB, 0, none⟩)) ∧ Box w1 w.heap.size #[.int .i64 r.kind, .int .i64 r.epoch, .slice ma lm mc, .int .i64 r.pos, .int .i64 r.last, .slice ea le ec] := ⟨HX.out.box.cell 0 _ rfl, HB.out⟩
  refine wp_region_S2 (fun x => x.cell? ⟨SB, 0, none⟩ = some (.pointer (some ⟨L.RB, 0, none⟩)) ∧ Box x w.heap.size #[.int .i64 r.kind, .int .i64 r.epoch, .slice ma lm mc, .int .i64 r.pos, .int .i64 r.last, .slice ea le ec]) (by kernel_rfl) ?_
  have hSw : w1.drew.cell? ⟨SB, 0, none⟩ = some (.pointer (some ⟨L.RB, 0, none⟩)) ∧ Box w1.drew w.heap.size #[.int .i64 r.kind, .int .i64 r.epoch, .slice ma lm mc, .int .i64 r.pos, .int .i64 r.last, .slice ea le ec] := hS0
  have hbd : Below w1.heap.size w1 w1.drew := Below.drew (Below.refl _ w1)
  have HX2 := Lib.hid (HX.out.below hbd)
  have HR2 := Lib.hid (HR.out.below hbd)
  have HE2 : Hid (Below w.heap.size w w1.drew) := HE0.out.drew
  clear hbd HX HR HB k0 hS0
  generalize w1.drew = w2 at *
  refine wpAnyH_tkS2 (i := 0) 33 (v := ?_) rfl rfl (by kernel_rfl) (by kernel_rfl) (by kernel_rfl) (by rfl) hSw (fun wq hwq => ?_) ?_
  rotate_left
  · (have hx := True.intro; go_simp <;> with_reducible rfl)
  simp only [List.setIfInBounds_toArray, List.set_cons_zero, List.set_cons_succ]
  refine wpAnyH_tkS2 (i := 1) 34 (v := ?_) rfl rfl (by kernel_rfl) (by kernel_rfl) (by kernel_rfl) (by rfl) hSw (fun wq hwq => ?_) ?_
  rotate_left
  · (have hx := True.intro; go_simp <;> with_reducible rfl)
  simp only [List.setIfInBounds_toArray, List.set_cons_zero, List.set_cons_succ]
  refine wpAnyH_tkS2 (i := 2) 35 (v := ?_) rfl rfl (by kernel_rfl) (by kernel_rfl) (by kernel_rfl) (by rfl) hSw (fun wq hwq => ?_) ?_
  rotate_left
  · (have hx := True.intro; go_simp <;> with_reducible rfl)
  simp only [List.setIfInBounds_toArray, List.set_cons_zero, List.set_cons_succ]
  refine wpAnyH_tkS2 (i := 3) 36 (v := ?_) rfl rfl (by kernel_rfl) (by kernel_rfl) (by kernel_rfl) (by rfl) hSw (fun wq hwq => ?_) ?_
  rotate_left
  · (have hx := True.intro; go_simp <;> with_reducible rfl)
  simp only [List.setIfInBounds_toArray, List.set_cons_zero, List.set_cons_succ]
  refine wpAnyH_tkS2 (i := 4) 37 (v := ?_) rfl rfl (by kernel_rfl) (by kernel_rfl) (by kernel_rfl) (by rfl) hSw (fun wq hwq => ?_) ?_
  rotate_left
  · (have hx := hwq.1; go_simp <;> with_reducible rfl)
  simp only [List.setIfInBounds_toArray, List.set_cons_zero, List.set_cons_succ]
  refine wpAnyH_tkS2 (i := 5) 38 (v := ?_) rfl rfl (by kernel_rfl) (by kernel_rfl) (by kernel_rfl) (by rfl) hSw (fun wq hwq => ?_) ?_
  rotate_left
  · (obtain ⟨y0, y1, y2, y3, y4, y5⟩ := box6 hwq.2; go_simp <;> with_reducible rfl)
  simp only [List.setIfInBounds_toArray, List.set_cons_zero, List.set_cons_succ]
  refine wpAnyH_tkS2 (i := 6) 39 (v := ?_) rfl rfl (by kernel_rfl) (by kernel_rfl) (by kernel_rfl) (by rfl) hSw (fun wq hwq => ?_) ?_
  rotate_left
  · (have hx := True.intro; go_simp <;> with_reducible rfl)
  simp only [List.setIfInBounds_toArray, List.set_cons_zero, List.set_cons_succ]
  refine wpAnyH_tkS2 (i := 7) 40 (v := ?_) rfl rfl (by kernel_rfl) (by kernel_rfl) (by kernel_rfl) (by rfl) hSw (fun wq hwq => ?_) ?_
  rotate_left
  · (have hx := True.intro; go_simp <;> with_reducible rfl)
  simp only [List.setIfInBounds_toArray, List.set_cons_zero, List.set_cons_succ]
  refine wpAnyH_oneS2 (i := 8) rfl (by kernel_rfl) (by rfl) (fun K hK => ?_)
  refine wp_stS 61 14 SB 0 61 #[.pointer (some ⟨L.RB, 0, none⟩), .int .i64 r.kind, .int .i64 r.epoch, .slice ma lm mc, .int .i64 r.pos, .int .i64 r.last, .slice ea le ec, .bool false, .int .i64 0, .int .i64 0, .slice none 0 0, .int .i64 0, .int .i64 0, .slice none 0 0] (L.cells s) (Lay.cells { L with na := ea, nc := ec, ma := ma, mc := mc, xa := none, xc := 0, ya := none, yc := 0 } ⟨r, false, pr0⟩) (.tmp 40) (.tmp 39) rfl rfl rfl rfl (by kernel_rfl) rfl HX2.out.box (by show 14 ≤ 14; omega) (by simp [Value.oneCell']) (by rw [← HLM.out, ← HLE.out]; rfl) ?_
  intro w3 hb3 hc3
  have hS3 : w3.cell? ⟨SB, 0, none⟩ = some (.pointer (some ⟨L.RB, 0, none⟩)) ∧ Box w3 w.heap.size #[.int .i64 r.kind, .int .i64 r.epoch, .slice ma lm mc, .int .i64 r.pos, .int .i64 r.last, .slice ea le ec] := ⟨hb3.cell 0 _ rfl, fun j v hv => hc3.cell (hSw.2 j v hv) (by simp; exact hne)⟩
  have HM : Hid (∀ g ∈ ({ L with na := ea, nc := ec, ma := ma, mc := mc, xa := none, xc := 0, ya := none, yc := 0 } : Lay).M SB R, g ∈ blk ea ++ L.M SB R) := fun g hg => by
    rw [List.mem_append]
    rcases Lay.mem.1 hg with e | e | e
    · exact .inr (Lay.mem.2 (.inl e))
    · exact .inr (Lay.mem.2 (.inr (.inl e)))
    · exact .inl e
  have HF := Lib.hid (HX2.out.put (L' := { L with na := ea, nc := ec, ma := ma, mc := mc, xa := none, xc := 0, ya := none, yc := 0 }) (s' := ⟨r, false, pr0⟩) rfl rfl rfl rfl hb3 hc3 (HR2.out.ents.go (gs := []) (Chg.refl _ _) (by simp) (by simp) (fun g hg => .inl (HM.out g hg))) (HR2.out.mem.sub fun g hg => .inl (HM.out g hg)) (fun _ _ _ _ => rec0_at _)
    (fun g hg => ⟨fun e => (HR2.out.apart g hg).1 (Lay.mem.2 (.inl e)), fun e => (HR2.out.apart g hg).1 (Lay.mem.2 (.inr (.inl e))), (HR2.out.apart g hg).2⟩))
  have HC : Hid (Chg (L.M SB R) w w3) := (Chg.of_below HE2.out).trans (hc3.mono fun g hg => Lay.mem.2 (.inl (by simpa using hg)))
  clear hb3 hc3
  refine hK.out _ _ (fun x => x.cell? ⟨SB, 0, none⟩ = some (.pointer (some ⟨L.RB, 0, none⟩)) ∧ Box x w.heap.size #[.int .i64 r.kind, .int .i64 r.epoch, .slice ma lm mc, .int .i64 r.pos, .int .i64 r.last, .slice ea le ec]) (fun _ h => h) (hS3) ?_
  clear hK K
  refine wpAnyH_done (by kernel_rfl) ?_ _
  refine NoPanic.normal ?_
  go_wp2
  go_end0
  refine ⟨rfl, _, HF.out, HC.out, rfl, fun g hg => ?_⟩
  rcases List.mem_append.mp (HM.out g hg) with h1 | h1
  · exact .inr (.inl h1)
  · exact .inl h1

/-- A record is applied. -/
theorem apply_any (h : SoX w base SB R d cs s L) (hr : Ry w base (L.M SB R) L.F ma mc ea ec r) (hlm : r.mem.length = lm) (hle : r.ents.length = le) (hs : s.now.ents.length ≤ 900000) (hl : le ≤ 10000) (hk : 1 ≤ r.kind ∧ r.kind ≤ 4) :
    Calls Try.prog 27 #[.pointer (some ⟨SB, 0, none⟩), .agg #[.int .i64 r.kind, .int .i64 r.epoch, .slice ma lm mc, .int .i64 r.pos, .int .i64 r.last, .slice ea le ec]] w
      (RetAy w base SB R d cs (appS s r) L ea) := by
  have hk4 : r.kind = 1 ∨ r.kind = 2 ∨ r.kind = 3 ∨ r.kind = 4 := by omega
  rcases hk4 with e | e | e | e
  · rw [appS_one e, e]
    exact apply_1 h hr hle hs hl
  · rw [appS_two e]
    exact apply_2 h r.kind e r.epoch r.pos r.last
  · rw [appS_three e]
    exact apply_3 h hr hlm hle e
  · rw [appS_four e]
    exact apply_4 h hr hlm hle e

end

end Go.Proofs.Ytdgpbdedaafdiaa
