/-
  keys.Find: the last Put or Del of a key.
-/
import Derived.Test.YtdifnipjmnbojaaWalksK8
namespace Go.Proofs.Ytdifnipjmnbojaa
open Go.RowKit Go.Shelf

attribute [local go_sem] Oper.semAt_some






theorem ents_els {w : World} {a : Option Addr} {cap : Nat} {es : List Pe} (h : EnsAt w a cap es) (hf : ∀ e ∈ es, e.frag.length ≤ 1000000000) :
    ∃ f : Nat → Yl w, ∀ j, j < es.length → (f j).i = es.length - 1 - j ∧ (f j).x.p = es.getD (es.length - 1 - j) pe0 ∧ ∃ b off, a = some ⟨b, off, none⟩ ∧ EnCells w b (off + (es.length - 1 - j) * 8) (f j).x.p (f j).x.loc (f j).x.cap := by
  have h0 : Yl w := ⟨0, el0, SeenAt.nil (Nat.zero_le _), Nat.zero_le _⟩
  have each : ∀ j, ∃ y : Yl w, j < es.length → y.i = es.length - 1 - j ∧ y.x.p = es.getD (es.length - 1 - j) pe0 ∧ ∃ b off, a = some ⟨b, off, none⟩ ∧ EnCells w b (off + (es.length - 1 - j) * 8) y.x.p y.x.loc y.x.cap := fun j => by
    by_cases hj : j < es.length
    · obtain ⟨b, off, loc, c, e, he⟩ := h.el (es.length - 1 - j) (by omega)
      exact ⟨⟨es.length - 1 - j, ⟨es.getD (es.length - 1 - j) pe0, loc, c⟩, he.seen, hf _ (getD_mem es _ pe0 (by omega))⟩, fun _ => ⟨rfl, rfl, b, off, e, he⟩⟩
    · exact ⟨h0, fun h => absurd h hj⟩
  exact ⟨fun j => Classical.choose (each j), fun j hj => Classical.choose_spec (each j) hj⟩

/-- 'The block holds just these cells' speaks of cells alone. -/
theorem bx_own {β : Type} (B : Nat) (t : TypeId) (C : Array Value) : Own (fun (_ : β) W => Bx W B t C) := fun s X Y row hs hg hrow => by
  unfold Bx at hs ⊢
  have hlt := (Array.getElem?_eq_some_iff.1 hs).1
  refine (hg.block B hlt (fun e => ?_)).trans hs
  obtain ⟨o, ho, hc⟩ := hrow B e.symm
  rw [hs] at ho
  cases ho
  cases hc

theorem seen_own {W W' : World} {row : Option Nat} {a : Option Addr} {c : Nat} {ps : List Nat} (h : SeenAt W a c ps) (hg : W.grownBy W' row) (hr : ∀ r, row = some r → ∃ o : Obj, W.heap[r]? = some o ∧ o.isCells = false) : SeenAt W' a c ps :=
  ⟨h.le, h.max, h.byte, fun i hi => by obtain ⟨b, off, e, hc⟩ := h.cell i hi; exact ⟨b, off, e, cell_kept hc hg hr⟩⟩

/-- Five blocks laid in a row. -/
theorem five (w : World) (c0 c1 c2 c3 c4 : Array Value) (t0 t1 t2 t3 t4 : TypeId) :
    ∃ W, W = ((((w.alloc (.cells c0 t0)).alloc (.cells c1 t1)).alloc (.cells c2 t2)).alloc (.cells c3 t3)).alloc (.cells c4 t4) ∧ Bx W w.heap.size t0 c0 ∧ Bx W (w.heap.size + 1) t1 c1 ∧ Bx W (w.heap.size + 1 + 1) t2 c2 ∧ Bx W (w.heap.size + 1 + 1 + 1) t3 c3 ∧ Bx W (w.heap.size + 1 + 1 + 1 + 1) t4 c4 ∧
      Below w.heap.size w W ∧ W.heap.size = w.heap.size + 1 + 1 + 1 + 1 + 1 := by
  have step : ∀ (x : World) (o : Obj) (B : Nat) (t : TypeId) (C : Array Value), Bx x B t C → Bx (x.alloc o) B t C := fun x o B t C h => h.chg (gs := []) (Chg.of_below (below_one x o)) (by simp)
  have h0 := bx_new8 w c0 t0
  have h1 := bx_new8 (w.alloc (.cells c0 t0)) c1 t1
  have h2 := bx_new8 ((w.alloc (.cells c0 t0)).alloc (.cells c1 t1)) c2 t2
  have h3 := bx_new8 (((w.alloc (.cells c0 t0)).alloc (.cells c1 t1)).alloc (.cells c2 t2)) c3 t3
  have h4 := bx_new8 ((((w.alloc (.cells c0 t0)).alloc (.cells c1 t1)).alloc (.cells c2 t2)).alloc (.cells c3 t3)) c4 t4
  simp only [World.size_alloc] at h1 h2 h3 h4
  refine ⟨_, rfl, step _ _ _ _ _ (step _ _ _ _ _ (step _ _ _ _ _ (step _ _ _ _ _ h0))), step _ _ _ _ _ (step _ _ _ _ _ (step _ _ _ _ _ h1)), step _ _ _ _ _ (step _ _ _ _ _ h2), step _ _ _ _ _ h3, h4, ?_, by simp only [World.size_alloc]⟩
  exact (((((below_one w _).alloc (by simp) _).alloc (by simp; omega) _).alloc (by simp; omega) _).alloc (by simp; omega) _)

theorem hit_nos {es : List Pe} {w : World} {f : Nat → Yl w} {key : List UInt8} {last : Int} {l k : Nat} (hk : k ≤ l) (hf : ∀ j, j < l → (f j).x.p = es.getD (l - 1 - j) pe0) (h : ∀ y ∈ uptoF f k, hit key last y.x.p = false) : ∀ j, l - k ≤ j → j < l → hit key last (es.getD j pe0) = false := fun j h1 h2 => by
  have := h (f (l - 1 - j)) (List.mem_map.mpr ⟨l - 1 - j, List.mem_range.mpr (by omega), rfl⟩)
  rw [hf _ (by omega), show l - 1 - (l - 1 - j) = j by omega] at this
  exact this

theorem key_same (p : Pe) (key : ByteArray) : ((strB p.key).toList == key.toList) = decide (kb p = key.data.toList) := by
  rw [Bool.eq_iff_iff, beq_iff_eq, decide_eq_true_iff, ByteArray.toList_eq, ByteArray.toList_eq, strB_list]
  exact Iff.rfl

theorem keeps_chg {gs : List Nat} {W W' : World} {B : Nat} (h : Chg gs W W') (hg : ∀ g ∈ gs, g < B) : KeepsFrom B W W' :=
  ⟨h.size, fun k _ hk ho _ => (h.block k (Array.getElem?_eq_some_iff.1 ho).1 (fun hm => by have := hg k hm; omega)).trans ho⟩

theorem bx_putObj {W : World} {B D : Nat} {t : TypeId} {C : Array Value} (h : Bx W B t C) (hne : B ≠ D) (o : Obj) : Bx (W.putObj D o) B t C :=
  ((grownBy_putObj' W D o).block B h.lt (fun e => hne (by cases e; rfl))).trans h

theorem seen_putObj {W : World} {D : Nat} {a : Option Addr} {c : Nat} {ps : List Nat} (h : SeenAt W a c ps) {o o' : Obj} (hD : W.heap[D]? = some o) (ho : o.isCells = false) : SeenAt (W.putObj D o') a c ps :=
  seen_own h (grownBy_putObj' W D o') (fun r e => by cases e; exact ⟨o, hD, ho⟩)



/-- Find's answer: the entry at the place found, its bytes in memory that is new; or none. -/
def RetFd (w : World) (es : List Pe) (o : Option Nat) (e : Ending) (w' : World) : Prop :=
  match o with
  | some i => ∃ loc c, e = .returned (.tuple #[.agg #[.int .i64 (es.getD i pe0).seq, .int .i64 (es.getD i pe0).client, .int .i64 (es.getD i pe0).num, .int .i64 (es.getD i pe0).op, .string (strB (es.getD i pe0).key), .int .i64 (es.getD i pe0).size, .int .u32 ((es.getD i pe0).sum : Int), .slice loc (es.getD i pe0).frag.length c], .bool true]) ∧ SeenAt w' loc c (es.getD i pe0).frag ∧ Below w.heap.size w w'
  | none => e = .returned (.tuple #[.agg #[.int .i64 0, .int .i64 0, .int .i64 0, .int .i64 0, .string ⟨#[]⟩, .int .i64 0, .int .u32 0, .slice none 0 0], .bool false]) ∧ Below w.heap.size w w'

set_option maxRecDepth 100000 in
set_option maxHeartbeats 4000000 in
theorem find_any (a : Option Addr) (cap l : Nat) (es : List Pe) (key : ByteArray) (last : Int) (w : World) (hl : es.length = l) (h : EnsAt w a cap es) (hkl : ∀ e ∈ es, e.frag.length ≤ 1000000000) (h9 : l ≤ 100000) :
    Calls Try.prog 8 #[.slice a l cap, .string key, .int .i64 last] w (RetFd w es (fndU es last key.data.toList l)) := by
  refine (callsIn_wide (n := 6)).1 ?_
  obtain ⟨f, hf⟩ := ents_els h hkl
  have hle := h.le
  rw [hl] at hf hle
  have HF := Lib.hid hf
  have HE := Lib.hid h
  have HL := Lib.hid hl
  clear hf h hl hkl
  have hro : Fence.wide.round = none := rfl
  have h22 : Fence.wide.fn 8 := trivial
  have h47 : Fence.wide.fn 20 := trivial
  have h76 : Fence.wide.fn 33 := trivial
  refine callsIn_of_wp_marks Try.func8 rfl h22 ?_ hro
  simp only [Try.ntmps8, List.size_toArray, List.length_cons, List.length_nil, Nat.reduceAdd, Nat.reduceSub, Array.replicate_succ, Array.replicate_zero, List.push_toArray, List.append_toArray, List.nil_append, List.cons_append]
  gi_wp2_with (gi_at_call 20; refine (backward_in Fence.wide (6 - 1) h47 hro _ _ _ _).mono ?_; rintro e w' ⟨rfl, rfl⟩)
  obtain ⟨W1, hW1, hbK, hbL, hbR, hbO, hbS, hB0, hsz⟩ := five w #[.string key] #[.int .i64 last] #[.int .i64 0, .int .i64 0, .int .i64 0, .int .i64 0, .string ⟨#[]⟩, .int .i64 0, .int .u32 0, .slice none 0 0] #[.bool false] #[.slice a l cap] 9 3 26 4 22
  rw [← hW1]
  have HBK := Lib.hid hbK
  have HBL := Lib.hid hbL
  have HBR := Lib.hid hbR
  have HBO := Lib.hid hbO
  have HB0 := Lib.hid hB0
  clear hW1 hbK hbL hbR hbO hB0
  refine wpIn_rangeFunc_ownH hro (by omega) (gf := 33) (lb := #[.pointer (some ⟨w.heap.size + 1 + 1 + 1 + 1, 0, none⟩)]) rfl h76 (enters_of Try.func33 (by kernel_rfl) rfl)
    (back_stops Fence.wide (6 - 1) h76 hro (by omega) (w.heap.size + 1 + 1 + 1 + 1) l cap a f (by omega) hle W1 (by omega) (hbS.cell 0 _ rfl)
      (fun j hj => by obtain ⟨h1, _, b, off, e, he⟩ := HF.out j hj; exact ⟨h1, b, off, e, he.below HB0.out⟩))
    belowK_t (belowK_b (Nat.le_refl _)) (Below.refl _ _) (fun _ => rfl)
    (fun pre W => (∀ y ∈ pre, hit key.data.toList last y.x.p = false) ∧ Below W1.heap.size W1 W)
    (fun c pre W => (c = .ret ∧ ∃ (ini : List (Yl w)) (y : Yl w) (loc : Option Addr) (lc : Nat), pre = ini ++ [y] ∧ (∀ z ∈ ini, hit key.data.toList last z.x.p = false) ∧ hit key.data.toList last y.x.p = true ∧ Bx W (w.heap.size + 1 + 1) 26 (ecs y.x.p loc lc) ∧ SeenAt W loc lc y.x.p.frag ∧ Bx W (w.heap.size + 1 + 1 + 1) 4 #[.bool true]) ∧ Below w.heap.size w W)
    (OwnFrom.and (ownFrom_pure _ _) (ownFrom_below (Nat.le_refl _) (Nat.le_refl _)))
    (fun c => OwnFrom.and (Own.from (fun s A B row hs hg hr => by
        obtain ⟨h1, ini, y, loc, lc, h2, h3, h4, h5, h6, h7⟩ := hs
        exact ⟨h1, ini, y, loc, lc, h2, h3, h4, bx_own _ _ _ () A B row h5 hg hr, seen_own h6 hg hr, bx_own _ _ _ () A B row h7 hg hr⟩) _) (ownFrom_below (Nat.le_refl _) (by rw [hsz]; omega)))
    ⟨by simp, Below.refl _ _⟩
    (fun y a' W => ∃ Bv, W1.heap.size ≤ Bv ∧ Bx W Bv 26 (ecs y.x.p y.x.loc y.x.cap) ∧ a' = { tmps := #[.slice a l cap, .string key, .int .i64 last, undef, .pointer (some ⟨w.heap.size, 0, none⟩), .pointer (some ⟨w.heap.size + 1, 0, none⟩), .pointer (some ⟨w.heap.size + 1 + 1, 0, none⟩), .pointer (some ⟨w.heap.size + 1 + 1 + 1, 0, none⟩), undef, .pointer (some ⟨Bv, 0, none⟩), .slice a l cap, .func (.func 33) #[] #[.pointer (some ⟨w.heap.size + 1 + 1 + 1 + 1, 0, none⟩)], .int .i64 (y.i : Int), .agg (ecs y.x.p y.x.loc y.x.cap), undef, undef, undef, undef, undef, undef, undef, undef, undef, undef, undef, undef, undef, undef, undef, undef, undef, undef, undef, undef, undef, undef, undef], defers := [] })
    (fun y a' s A B row hs hg hr => by
      obtain ⟨Bv, h1, h2, h3⟩ := hs
      exact ⟨Bv, h1, bx_own _ _ _ () A B row h2 hg (fun r e => (hr r e).2), h3⟩)
    ?assign ?body ?done ?stop
  case assign =>
    rintro l' pre ⟨yi, ⟨yp, yl, yc⟩, yok⟩ W K ⟨hp, hB⟩ hK
    simp only [Yl.vals]
    gi_wp2
    refine hK _ _ ((KeepsOthers.alloc _ _).from _) ((Below.refl _ W).alloc hB.size _) ⟨hp, hB.alloc hB.size _⟩ ⟨W.heap.size, hB.size, bx_new8 _ _ _, ?_⟩
    rfl
  case body =>
    rintro l' pre ⟨yi, ⟨yp, yl, yc⟩, yok⟩ a' W hl' ⟨r, hr⟩ ⟨hp, hB⟩ ⟨Bv, hBv, hbv, rfl⟩ hlen
    have kK := (HBK.out.chg (gs := []) (Chg.of_below hB) (by simp)).cell 0 (.string key) rfl
    have kL := (HBL.out.chg (gs := []) (Chg.of_below hB) (by simp)).cell 0 (.int .i64 last) rfl
    have HR := Lib.hid (HBR.out.chg (gs := []) (Chg.of_below hB) (by simp))
    have HO := Lib.hid (HBO.out.chg (gs := []) (Chg.of_below hB) (by simp))
    have HYK := Lib.hid yok
    have HBV := Lib.hid hbv
    have HP := Lib.hid hp
    have HB := Lib.hid hB
    have HRL := Lib.hid hr
    have HL' := Lib.hid hl'
    unfold ecs at *
    dsimp only at *
    have k0 := hbv.cell 0 (.int .i64 yp.seq) rfl
    have k1 := hbv.cell 1 (.int .i64 yp.client) rfl
    have k2 := hbv.cell 2 (.int .i64 yp.num) rfl
    have k3 := hbv.cell 3 (.int .i64 yp.op) rfl
    have k4 := hbv.cell 4 (.string (strB yp.key)) rfl
    have k5 := hbv.cell 5 (.int .i64 yp.size) rfl
    have k6 := hbv.cell 6 (.int .u32 (yp.sum : Int)) rfl
    have k7 := hbv.cell 7 (.slice yl yp.frag.length yc) rfl
    have hks := key_same yp key
    clear hbv hp hB hr hl' hlen
    by_cases h1 : kb yp = key.data.toList
    · have d1 : ((strB yp.key).toList == key.toList) = true := by rw [hks]; simp [h1]
      by_cases h2 : yp.seq ≤ last
      · have d2 : decide (yp.seq ≤ last) = true := by simp [h2]
        by_cases h3 : yp.op = 1
        · have d3 : (yp.op == 1) = true := by simp [h3]
          have HH : Hid (hit key.data.toList last yp = true) := hit_iff.2 ⟨h1, h2, .inl h3⟩
          clear h1 h2 h3 hks
          gi_wp2_with fail
          refine ⟨trivial, ?_⟩
          refine (CallsIn.inRound l' (callsIn_wide.2 (copied_any yp yl yc W ((HYK.out.1.below HB0.out).below HB.out) HYK.out.2))).mono ?_
          rintro e wy ⟨la, lc, rfl, hsy, hfy, hby⟩
          have HR1 := Lib.hid (HR.out.chg (gs := []) (Chg.of_below hby) (by simp))
          have HO1 := Lib.hid (HO.out.chg (gs := []) (Chg.of_below hby) (by simp))
          have HBW := Lib.hid (HB0.out.trans ((HB.out.trans (hby.mono HB.out.size)).mono HB0.out.size))
          have HBY := Lib.hid hby
          have HSY := Lib.hid hsy
          have hla : ∀ b o, la = some ⟨b, o, none⟩ → w.heap.size + 1 + 1 + 1 < b := fun b o e1 => by
            rcases hfy with h | ⟨b2, o2, h, h2, _⟩
            · rw [h] at e1; cases e1
            · rw [h] at e1; cases e1
              have := HB.out.size
              omega
          have HLA := Lib.hid hla
          clear hsy hfy hby hla HR HO
          clear k0 k1 k2 k3 k4 k5 k6 k7
          clear kK kL
          have y0 := HR1.out.cell 0 (.int .i64 0) rfl
          have y1 := HR1.out.cell 1 (.int .i64 0) rfl
          have y2 := HR1.out.cell 2 (.int .i64 0) rfl
          have y3 := HR1.out.cell 3 (.int .i64 0) rfl
          have y4 := HR1.out.cell 4 (.string ⟨#[]⟩) rfl
          have y5 := HR1.out.cell 5 (.int .i64 0) rfl
          have y6 := HR1.out.cell 6 (.int .u32 0) rfl
          have y7 := HR1.out.cell 7 (.slice none 0 0) rfl
          have g0 := HR1.out.free 0
          have g1 := HR1.out.free 1
          have g2 := HR1.out.free 2
          have g3 := HR1.out.free 3
          have g4 := HR1.out.free 4
          have g5 := HR1.out.free 5
          have g6 := HR1.out.free 6
          have g7 := HR1.out.free 7
          have z0 := HO1.out.cell 0 (.bool false) rfl
          have z1 := HO1.out.free 0
          have HP8 := Lib.hid (HR1.out.put8 (.int .i64 yp.seq) (.int .i64 yp.client) (.int .i64 yp.num) (.int .i64 yp.op) (.string (strB yp.key)) (.int .i64 yp.size) (.int .u32 (yp.sum : Int)) (.slice la yp.frag.length lc))
          gi_wp2_with fail
          generalize ((((((((wy.setCell ⟨w.heap.size + 1 + 1, 0, none⟩ (.int .i64 yp.seq)).setCell ⟨w.heap.size + 1 + 1, 1, none⟩ (.int .i64 yp.client)).setCell ⟨w.heap.size + 1 + 1, 2, none⟩ (.int .i64 yp.num)).setCell ⟨w.heap.size + 1 + 1, 3, none⟩ (.int .i64 yp.op)).setCell ⟨w.heap.size + 1 + 1, 4, none⟩ (.string (strB yp.key))).setCell ⟨w.heap.size + 1 + 1, 5, none⟩ (.int .i64 yp.size)).setCell ⟨w.heap.size + 1 + 1, 6, none⟩ (.int .u32 (yp.sum : Int))).setCell ⟨w.heap.size + 1 + 1, 7, none⟩ (.slice la yp.frag.length lc)) = w2 at *
          have hc3 := chg_set w2 (w.heap.size + 1 + 1 + 1) 0 (.bool true)
          have hc2 : Chg [w.heap.size + 1 + 1, w.heap.size + 1 + 1 + 1] wy (w2.setCell ⟨w.heap.size + 1 + 1 + 1, 0, none⟩ (.bool true)) := (HP8.out.2.mono (by simp)).trans (hc3.mono (by simp))
          refine ⟨keeps_chg ((Chg.of_below HBY.out).trans hc2) (by intro g hg; simp at hg; omega), ⟨rfl, pre, ⟨yi, ⟨yp, yl, yc⟩, yok⟩, la, lc, rfl, HP.out, HH.out, HP8.out.1.chg hc3 (by simp), HSY.out.chg hc2 (fun b o e1 => by have := HLA.out b o e1; simp; omega), ?_⟩, hc2.below HBW.out HBW.out.size (by simp; omega)⟩
          exact bx_set8 (HO1.out.chg HP8.out.2 (by simp)) 0 (.bool true) rfl
        have d3 : (yp.op == 1) = false := by simp [h3]
        by_cases h4 : yp.op = 2
        · have d4 : (yp.op == 2) = true := by simp [h4]
          have HH : Hid (hit key.data.toList last yp = true) := hit_iff.2 ⟨h1, h2, .inr h4⟩
          clear h1 h2 h3 h4 hks
          gi_wp2_with fail
          refine ⟨trivial, ?_⟩
          refine (CallsIn.inRound l' (callsIn_wide.2 (copied_any yp yl yc W ((HYK.out.1.below HB0.out).below HB.out) HYK.out.2))).mono ?_
          rintro e wy ⟨la, lc, rfl, hsy, hfy, hby⟩
          have HR1 := Lib.hid (HR.out.chg (gs := []) (Chg.of_below hby) (by simp))
          have HO1 := Lib.hid (HO.out.chg (gs := []) (Chg.of_below hby) (by simp))
          have HBW := Lib.hid (HB0.out.trans ((HB.out.trans (hby.mono HB.out.size)).mono HB0.out.size))
          have HBY := Lib.hid hby
          have HSY := Lib.hid hsy
          have hla : ∀ b o, la = some ⟨b, o, none⟩ → w.heap.size + 1 + 1 + 1 < b := fun b o e1 => by
            rcases hfy with h | ⟨b2, o2, h, h2, _⟩
            · rw [h] at e1; cases e1
            · rw [h] at e1; cases e1
              have := HB.out.size
              omega
          have HLA := Lib.hid hla
          clear hsy hfy hby hla HR HO
          clear k0 k1 k2 k3 k4 k5 k6 k7
          clear kK kL
          have y0 := HR1.out.cell 0 (.int .i64 0) rfl
          have y1 := HR1.out.cell 1 (.int .i64 0) rfl
          have y2 := HR1.out.cell 2 (.int .i64 0) rfl
          have y3 := HR1.out.cell 3 (.int .i64 0) rfl
          have y4 := HR1.out.cell 4 (.string ⟨#[]⟩) rfl
          have y5 := HR1.out.cell 5 (.int .i64 0) rfl
          have y6 := HR1.out.cell 6 (.int .u32 0) rfl
          have y7 := HR1.out.cell 7 (.slice none 0 0) rfl
          have g0 := HR1.out.free 0
          have g1 := HR1.out.free 1
          have g2 := HR1.out.free 2
          have g3 := HR1.out.free 3
          have g4 := HR1.out.free 4
          have g5 := HR1.out.free 5
          have g6 := HR1.out.free 6
          have g7 := HR1.out.free 7
          have z0 := HO1.out.cell 0 (.bool false) rfl
          have z1 := HO1.out.free 0
          have HP8 := Lib.hid (HR1.out.put8 (.int .i64 yp.seq) (.int .i64 yp.client) (.int .i64 yp.num) (.int .i64 yp.op) (.string (strB yp.key)) (.int .i64 yp.size) (.int .u32 (yp.sum : Int)) (.slice la yp.frag.length lc))
          gi_wp2_with fail
          generalize ((((((((wy.setCell ⟨w.heap.size + 1 + 1, 0, none⟩ (.int .i64 yp.seq)).setCell ⟨w.heap.size + 1 + 1, 1, none⟩ (.int .i64 yp.client)).setCell ⟨w.heap.size + 1 + 1, 2, none⟩ (.int .i64 yp.num)).setCell ⟨w.heap.size + 1 + 1, 3, none⟩ (.int .i64 yp.op)).setCell ⟨w.heap.size + 1 + 1, 4, none⟩ (.string (strB yp.key))).setCell ⟨w.heap.size + 1 + 1, 5, none⟩ (.int .i64 yp.size)).setCell ⟨w.heap.size + 1 + 1, 6, none⟩ (.int .u32 (yp.sum : Int))).setCell ⟨w.heap.size + 1 + 1, 7, none⟩ (.slice la yp.frag.length lc)) = w2 at *
          have hc3 := chg_set w2 (w.heap.size + 1 + 1 + 1) 0 (.bool true)
          have hc2 : Chg [w.heap.size + 1 + 1, w.heap.size + 1 + 1 + 1] wy (w2.setCell ⟨w.heap.size + 1 + 1 + 1, 0, none⟩ (.bool true)) := (HP8.out.2.mono (by simp)).trans (hc3.mono (by simp))
          refine ⟨keeps_chg ((Chg.of_below HBY.out).trans hc2) (by intro g hg; simp at hg; omega), ⟨rfl, pre, ⟨yi, ⟨yp, yl, yc⟩, yok⟩, la, lc, rfl, HP.out, HH.out, HP8.out.1.chg hc3 (by simp), HSY.out.chg hc2 (fun b o e1 => by have := HLA.out b o e1; simp; omega), ?_⟩, hc2.below HBW.out HBW.out.size (by simp; omega)⟩
          exact bx_set8 (HO1.out.chg HP8.out.2 (by simp)) 0 (.bool true) rfl
        have d4 : (yp.op == 2) = false := by simp [h4]
        have HH : Hid (hit key.data.toList last yp = false) := hit_no.2 (fun h => h.2.2.elim h3 h4)
        clear h1 h2 h3 h4 hks
        gi_wp2_with fail
        exact ⟨KeepsFrom.refl _ _, Below.refl _ _, fun z hz => by
          rcases List.mem_append.mp hz with hz | hz
          · exact HP.out z hz
          · rw [List.mem_singleton.mp hz]; exact HH.out, HB.out⟩
      have d2 : decide (yp.seq ≤ last) = false := by simp; omega
      have HH : Hid (hit key.data.toList last yp = false) := hit_no.2 (fun h => h2 h.2.1)
      clear h1 h2 hks
      gi_wp2_with fail
      exact ⟨KeepsFrom.refl _ _, Below.refl _ _, fun z hz => by
        rcases List.mem_append.mp hz with hz | hz
        · exact HP.out z hz
        · rw [List.mem_singleton.mp hz]; exact HH.out, HB.out⟩
    have d1 : ((strB yp.key).toList == key.toList) = false := by rw [hks]; simp [h1]
    have HH : Hid (hit key.data.toList last yp = false) := hit_no.2 (fun h => h1 h.1)
    clear h1 hks
    gi_wp2_with fail
    exact ⟨KeepsFrom.refl _ _, Below.refl _ _, fun z hz => by
      rcases List.mem_append.mp hz with hz | hz
      · exact HP.out z hz
      · rw [List.mem_singleton.mp hz]; exact HH.out, HB.out⟩
  case done =>
    rintro D ys W hD rfl ⟨hp, hB⟩ hK
    have HR := Lib.hid (HBR.out.chg (gs := []) (Chg.of_below hB) (by simp))
    have HO := Lib.hid (HBO.out.chg (gs := []) (Chg.of_below hB) (by simp))
    have HP : Hid (fndU es last key.data.toList l = none) := lastU_not (fun j hj => hit_nos (Nat.le_refl l) (fun j hj => (HF.out j hj).2.1) hp j (by omega) hj)
    have HBW := Lib.hid (HB0.out.trans (hB.mono HB0.out.size))
    have HK := Lib.hid hK
    have HD := Lib.hid hD
    clear hp hB hK hD
    have y0 := HR.out.cell 0 (.int .i64 0) rfl
    have y1 := HR.out.cell 1 (.int .i64 0) rfl
    have y2 := HR.out.cell 2 (.int .i64 0) rfl
    have y3 := HR.out.cell 3 (.int .i64 0) rfl
    have y4 := HR.out.cell 4 (.string ⟨#[]⟩) rfl
    have y5 := HR.out.cell 5 (.int .i64 0) rfl
    have y6 := HR.out.cell 6 (.int .u32 0) rfl
    have y7 := HR.out.cell 7 (.slice none 0 0) rfl
    have g0 := HR.out.free 0
    have g1 := HR.out.free 1
    have g2 := HR.out.free 2
    have g3 := HR.out.free 3
    have g4 := HR.out.free 4
    have g5 := HR.out.free 5
    have g6 := HR.out.free 6
    have g7 := HR.out.free 7
    have z0 := HO.out.cell 0 (.bool false) rfl
    have z1 := HO.out.free 0
    have HP8 := Lib.hid (HR.out.put8 (.int .i64 0) (.int .i64 0) (.int .i64 0) (.int .i64 0) (.string ⟨#[]⟩) (.int .i64 0) (.int .u32 0) (.slice none 0 0))
    gi_wp2_with fail
    generalize ((((((((W.setCell ⟨w.heap.size + 1 + 1, 0, none⟩ (.int .i64 0)).setCell ⟨w.heap.size + 1 + 1, 1, none⟩ (.int .i64 0)).setCell ⟨w.heap.size + 1 + 1, 2, none⟩ (.int .i64 0)).setCell ⟨w.heap.size + 1 + 1, 3, none⟩ (.int .i64 0)).setCell ⟨w.heap.size + 1 + 1, 4, none⟩ (.string ⟨#[]⟩)).setCell ⟨w.heap.size + 1 + 1, 5, none⟩ (.int .i64 0)).setCell ⟨w.heap.size + 1 + 1, 6, none⟩ (.int .u32 0)).setCell ⟨w.heap.size + 1 + 1, 7, none⟩ (.slice none 0 0)) = w2 at *
    have hc3 := chg_set w2 (w.heap.size + 1 + 1 + 1) 0 (.bool false)
    have hc2 : Chg [w.heap.size + 1 + 1, w.heap.size + 1 + 1 + 1] W (w2.setCell ⟨w.heap.size + 1 + 1 + 1, 0, none⟩ (.bool false)) := (HP8.out.2.mono (by simp)).trans (hc3.mono (by simp))
    have hb3 : Bx (w2.setCell ⟨w.heap.size + 1 + 1 + 1, 0, none⟩ (.bool false)) (w.heap.size + 1 + 1 + 1) 4 #[.bool false] := bx_set8 (HO.out.chg HP8.out.2 (by simp)) 0 (.bool false) rfl
    have hb2 := HP8.out.1.chg hc3 (by simp)
    have hD := HD.out
    have hK' := (hc2.block D (Array.getElem?_eq_some_iff.1 HK.out).1 (by simp; omega)).trans HK.out
    have hbw := hc2.below HBW.out HBW.out.size (by simp; omega)
    generalize w2.setCell ⟨w.heap.size + 1 + 1 + 1, 0, none⟩ (.bool false) = w3 at *
    clear y0 y1 y2 y3 y4 y5 y6 y7
    clear g0 g1 g2 g3 g4 g5 g6 g7
    have b2 := bx_putObj hb2 (D := D) (by omega) (.deferred none)
    have b3 := bx_putObj hb3 (D := D) (by omega) (.deferred none)
    have k0 := b2.cell 0 (.int .i64 0) rfl
    have k1 := b2.cell 1 (.int .i64 0) rfl
    have k2 := b2.cell 2 (.int .i64 0) rfl
    have k3 := b2.cell 3 (.int .i64 0) rfl
    have k4 := b2.cell 4 (.string ⟨#[]⟩) rfl
    have k5 := b2.cell 5 (.int .i64 0) rfl
    have k6 := b2.cell 6 (.int .u32 0) rfl
    have k7 := b2.cell 7 (.slice none 0 0) rfl
    have z5 := b3.cell 0 (.bool false) rfl
    refine ⟨by simp, .inl ⟨_, _, rfl, run_takeDeferred hK', ?_⟩⟩
    refine ⟨.tuple #[.agg #[.int .i64 0, .int .i64 0, .int .i64 0, .int .i64 0, .string ⟨#[]⟩, .int .i64 0, .int .u32 0, .slice none 0 0], .bool false], ?_, ?_⟩
    · simp [results, Try.f8, go_sem, k0, k1, k2, k3, k4, k5, k6, k7, z5]
    · rw [HP.out]
      exact ⟨rfl, hbw.trans (belowK_b (w := w) (Nat.le_refl _) _ D _ _ (by omega) hK' rfl rfl)⟩
  case stop =>
    rintro D c pre W hD ⟨k, hk, rfl⟩ ⟨⟨rfl, ini, y, loc, lc, e1, h2, h3, hb2, hs, hb3⟩, hbw⟩ hK
    gi_wp2
    obtain ⟨k', rfl⟩ : ∃ k', k = k' + 1 := by
      cases k with
      | zero => simp [uptoF] at e1
      | succ k' => exact ⟨k', rfl⟩
    rw [uptoF_succ] at e1
    obtain ⟨rfl, e5⟩ := List.append_inj' e1 rfl
    obtain rfl : f k' = y := by simpa using e5
    obtain ⟨hfi, hfp, _⟩ := HF.out k' (by omega)
    rw [hfp] at h3 hb2 hs
    have hfd : fndU es last key.data.toList l = some (l - 1 - k') := lastU_is (by omega) h3 (fun j h1 h4 => hit_nos (k := k') (by omega) (fun j hj => (HF.out j hj).2.1) h2 j (by omega) h4)
    rw [hfd]
    have b2 := bx_putObj hb2 (D := D) (by omega) (.deferred none)
    have b3 := bx_putObj hb3 (D := D) (by omega) (.deferred none)
    have s3 := seen_putObj (o' := .deferred none) hs hK rfl
    unfold RetFd
    dsimp only
    generalize es.getD (l - 1 - k') pe0 = p at *
    have k0 := b2.cell 0 (.int .i64 p.seq) rfl
    have k1 := b2.cell 1 (.int .i64 p.client) rfl
    have k2 := b2.cell 2 (.int .i64 p.num) rfl
    have k3 := b2.cell 3 (.int .i64 p.op) rfl
    have k4 := b2.cell 4 (.string (strB p.key)) rfl
    have k5 := b2.cell 5 (.int .i64 p.size) rfl
    have k6 := b2.cell 6 (.int .u32 (p.sum : Int)) rfl
    have k7 := b2.cell 7 (.slice loc p.frag.length lc) rfl
    have z5 := b3.cell 0 (.bool true) rfl
    refine ⟨by simp, .inl ⟨_, _, rfl, run_takeDeferred hK, ?_⟩⟩
    refine ⟨.tuple #[.agg #[.int .i64 p.seq, .int .i64 p.client, .int .i64 p.num, .int .i64 p.op, .string (strB p.key), .int .i64 p.size, .int .u32 (p.sum : Int), .slice loc p.frag.length lc], .bool true], ?_, ?_⟩
    · simp [results, Try.f8, go_sem, k0, k1, k2, k3, k4, k5, k6, k7, z5]
    · exact ⟨loc, lc, rfl, s3, hbw.trans (belowK_b (w := w) (Nat.le_refl _) _ D _ _ (by omega) hK rfl rfl)⟩

end Go.Proofs.Ytdifnipjmnbojaa
