/-
  What the law BookPlays knows, and how it goes on.
-/
import Derived.Test.YtfcjnhcolkpppaaWalksC2
namespace Go.Proofs.Ytfcjnhcolkpppaa
open Go.RowKit

/-- What happens to a book. -/
structure Ab where
  what : Int
  n : Int
  x : Rl

def ab0 : Ab := ⟨0, 0, rl0⟩

def abcells (y : Ab) : List Value := [.int .i64 y.what, .int .i64 y.n, .int .i64 y.x.r.kind, .int .i64 y.x.r.epoch, .slice y.x.ma y.x.r.mem.length y.x.mc, .int .i64 y.x.r.pos, .int .i64 y.x.r.last, .slice y.x.ea y.x.r.ents.length y.x.ec]

/-- The cells behind the address a hold the acts. -/
structure AbA (w : World) (a : Option Addr) (cap : Nat) (es : List Ab) : Prop where
  le : es.length ≤ cap
  max : cap ≤ maxLen
  el : ∀ i, i < es.length → ∃ b off, a = some ⟨b, off, none⟩ ∧ ∀ k u, (abcells (es.getD i ab0))[k]? = some u → w.cell? ⟨b, off + i * 8 + k, none⟩ = some u
  ok : ∀ y ∈ es, RecAt w y.x.ma y.x.mc y.x.ea y.x.ec y.x.r
  wf : ∀ y ∈ es, (Lit.int .i64 y.what).wf = true ∧ (Lit.int .i64 y.n).wf = true
  bulk : ∀ y ∈ es, ∀ e ∈ y.x.r.ents, e.key.length ≤ 1048576 ∧ e.frag.length ≤ 1048576

/-- The box of an act. -/
structure Bz (x : World) (B o : Nat) (what n : Int) (r : Pr) (ma : Option Addr) (lm mc : Nat) (ea : Option Addr) (le ec : Nat) : Prop where
  d0 : x.cell? ⟨B, o, none⟩ = some (.int .i64 what)
  d1 : x.cell? ⟨B, o + 1, none⟩ = some (.int .i64 n)
  c0 : x.cell? ⟨B, o + 2, none⟩ = some (.int .i64 r.kind)
  c1 : x.cell? ⟨B, o + 3, none⟩ = some (.int .i64 r.epoch)
  c2 : x.cell? ⟨B, o + 4, none⟩ = some (.slice ma lm mc)
  c3 : x.cell? ⟨B, o + 5, none⟩ = some (.int .i64 r.pos)
  c4 : x.cell? ⟨B, o + 6, none⟩ = some (.int .i64 r.last)
  c5 : x.cell? ⟨B, o + 7, none⟩ = some (.slice ea le ec)

theorem Bz.chg {gs : List Nat} {x x' : World} {B o lm mc le ec : Nat} {what n : Int} {r : Pr} {ma ea : Option Addr} (h : Bz x B o what n r ma lm mc ea le ec) (hb : Chg gs x x') (hn : B ∉ gs) : Bz x' B o what n r ma lm mc ea le ec :=
  ⟨hb.cell h.d0 hn, hb.cell h.d1 hn, hb.cell h.c0 hn, hb.cell h.c1 hn, hb.cell h.c2 hn, hb.cell h.c3 hn, hb.cell h.c4 hn, hb.cell h.c5 hn⟩

theorem Bz.below {x x' : World} {B o lm mc le ec : Nat} {what n : Int} {r : Pr} {ma ea : Option Addr} (h : Bz x B o what n r ma lm mc ea le ec) (hb : Below x.heap.size x x') : Bz x' B o what n r ma lm mc ea le ec := h.chg (gs := []) (Chg.of_below hb) (by simp)

theorem Bz.lt {x : World} {B o lm mc le ec : Nat} {what n : Int} {r : Pr} {ma ea : Option Addr} (h : Bz x B o what n r ma lm mc ea le ec) : B < x.heap.size := World.block_lt_of_cell? x ⟨B, o, none⟩ h.d0

theorem bz_new (x : World) (what n : Int) (r : Pr) (ma ea : Option Addr) (lm mc le ec : Nat) : Bz (x.alloc (.cells #[.int .i64 what, .int .i64 n, .int .i64 r.kind, .int .i64 r.epoch, .slice ma lm mc, .int .i64 r.pos, .int .i64 r.last, .slice ea le ec] 38)) x.heap.size 0 what n r ma lm mc ea le ec := ⟨by simp, by simp, by simp, by simp, by simp, by simp, by simp, by simp⟩

theorem AbA.one {w : World} {a : Option Addr} {cap : Nat} {es : List Ab} (h : AbA w a cap es) (k : Nat) (hk : k < es.length) :
    ∃ b off, a = some ⟨b, off, none⟩ ∧ Bz w b (off + k * 8) (es.getD k ab0).what (es.getD k ab0).n (es.getD k ab0).x.r (es.getD k ab0).x.ma (es.getD k ab0).x.r.mem.length (es.getD k ab0).x.mc (es.getD k ab0).x.ea (es.getD k ab0).x.r.ents.length (es.getD k ab0).x.ec := by
  obtain ⟨b, off, e, hc⟩ := h.el k hk
  exact ⟨b, off, e, hc 0 _ rfl, hc 1 _ rfl, hc 2 _ rfl, hc 3 _ rfl, hc 4 _ rfl, hc 5 _ rfl, hc 6 _ rfl, hc 7 _ rfl⟩

theorem med_of (r : Pr) (h6 : r.ents.length ≤ 6) (h40 : r.mem.length ≤ 40) (hb : ∀ e ∈ r.ents, e.key.length ≤ 1048576 ∧ e.frag.length ≤ 1048576) : Med r := by
  have := encL_len encE 2097232 r.ents (fun e he => by have := encE_len e; have := hb e he; omega)
  exact ⟨h40, by omega, fun e he => by have := hb e he; omega, by omega⟩

/-- What the law knows at the head of a round. -/
structure P9 (w ws : World) (N RB R : Nat) (a ga : Option Addr) (s : DS) (cs : List (List Nat)) (F : List Nat) (lv : Option Addr) (lvc : Nat) (ys : List Rl) (tn : Bool) (t : Nat) (dn : Bool) : Prop where
  st : St w ws RB R a ga s cs F
  list : RcA ws lv lvc ys
  each : ∀ y ∈ ys, GoodX y ∧ y.lo = 0 ∧ y.hi = w.heap.size
  ap : ∀ g ∈ blk lv, g ∉ bkM RB R a ga ∧ g < ws.heap.size
  room : s.room = N
  down : s.off = dn
  up : dn = false → s.ps = frms (ys.map encX) ∧ cs = ys.map encX ∧ s.torn = tn ∧ (tn = true → s.lim = t)
  tail : ∃ q, s.ps = frms (ys.map encX) ++ q ∧ isF q = false
  cl : cs.length ≤ 30

section
variable {w ws ws' : World} {N RB R : Nat} {a ga : Option Addr} {s : DS} {cs : List (List Nat)} {F : List Nat} {lv : Option Addr} {lvc : Nat} {ys : List Rl} {tn : Bool} {t : Nat} {dn : Bool}

theorem P9.below (h : P9 w ws N RB R a ga s cs F lv lvc ys tn t dn) (hb : Below ws.heap.size ws ws') : P9 w ws' N RB R a ga s cs F lv lvc ys tn t dn :=
  ⟨h.st.below hb, h.list.below hb, h.each, fun g hg => ⟨(h.ap g hg).1, Nat.lt_of_lt_of_le (h.ap g hg).2 hb.size⟩, h.room, h.down, h.up, h.tail, h.cl⟩

/-- A list that lies elsewhere stays when the book turns. -/
theorem keepL {M M' : List Nat} (hM : ∀ g ∈ M, w.heap.size ≤ g) (hl : RcA ws lv lvc ys) (he : ∀ y ∈ ys, y.hi = w.heap.size) (ha : ∀ g ∈ blk lv, g ∉ M ∧ g < ws.heap.size) (hm : Mv ws ws' M M') : RcA ws' lv lvc ys ∧ ∀ g ∈ blk lv, g ∉ M' ∧ g < ws'.heap.size :=
  ⟨hl.chg hm.chg (fun g hg => (ha g hg).1) (fun x hx g hg => .inr (by rw [he x hx]; exact hM g hg)), fun g hg => ⟨hm.off (ha g hg).1 (ha g hg).2, Nat.lt_of_lt_of_le (ha g hg).2 hm.chg.size⟩⟩

/-- The disk's power is torn off at t bytes of the next write. -/
theorem P9.tear (h : P9 w ws N RB R a ga s cs F lv lvc ys tn t dn) (m : Nat) (hd : Dsk ws' w.heap.size R a { s with torn := true, lim := m }) (hg : Chg [R] ws ws') : P9 w ws' N RB R a ga { s with torn := true, lim := m } cs F lv lvc ys true m dn := by
  obtain ⟨h1, h2⟩ := h.st.done hd hg
  obtain ⟨k1, k2⟩ := keepL (fun g hg => (h.st.bk.mLt hg).1) h.list (fun y hy => (h.each y hy).2.2) h.ap h2
  exact ⟨h1, k1, h.each, k2, h.room, h.down, fun e => ⟨(h.up e).1, (h.up e).2.1, rfl, fun _ => rfl⟩, h.tail, h.cl⟩

end

/-- A book that is opened again. -/
theorem P9.again {w ws w1 w2 : World} {N RB R RB2 : Nat} {a ga a2 ga2 : Option Addr} {s : DS} {cs cs2 : List (List Nat)} {F F2 : List Nat} {lv : Option Addr} {lvc : Nat} {ys : List Rl} {tn : Bool} {t t2 : Nat} {dn : Bool} {rest : List Nat} (h : P9 w ws N RB R a ga s cs F lv lvc ys tn t dn) (hl : ys.length ≤ 30)
    (hd : Dsk w1 w.heap.size R a { s with off := false, torn := false }) (hg : Chg [R] ws w1) (hv : Vld s.ps cs2 rest) (hk : Bk w2 w.heap.size RB2 R a2 ga2 { s with off := false, torn := false, ps := frms cs2 } cs2 F2) (hm : Mv w1 w2 (R :: blk a) (bkM RB2 R a2 ga2)) :
    cs2 = ys.map encX ∧ P9 w w2 N RB2 R a2 ga2 { s with off := false, torn := false, ps := frms cs2 } cs2 F2 lv lvc ys false t2 false := by
  obtain ⟨q, hq, hf⟩ := h.tail
  rw [hq] at hv
  obtain ⟨ds, rfl, hv'⟩ := vld_app _ _ _ _ (good_encs ys fun y hy => (h.each y hy).1) hv
  obtain ⟨rfl, -⟩ := vld_none _ _ _ hv' hf
  rw [List.append_nil] at hk ⊢
  obtain ⟨h1, h2⟩ := h.st.done hd hg
  have hm' := hm.opened (RB := RB) (ga := ga)
  have h3 := h1.mv hk hm'
  obtain ⟨k1, k2⟩ := keepL (fun g hg => (h.st.bk.mLt hg).1) h.list (fun y hy => (h.each y hy).2.2) h.ap (h2.trans hm')
  exact ⟨rfl, h3, k1, h.each, k2, h.room, rfl, fun _ => ⟨rfl, rfl, rfl, fun e => by cases e⟩, ⟨[], by rw [List.append_nil], isF_nil⟩, by rw [List.length_map]; exact hl⟩

theorem wrt_off9 (s : DS) (b : List Nat) (rep : Bool) (h : s.off = true) : wrt s b rep = (6, s) := by unfold wrt; rw [if_pos h]
theorem wrt_full9 (s : DS) (b : List Nat) (rep : Bool) (h : s.off = false) (hr : s.room < (if rep then 0 else s.ps.length) + b.length) : wrt s b rep = (5, s) := by
  unfold wrt; rw [if_neg (by rw [h]; simp), if_pos hr]
theorem wrt_ok9 (s : DS) (b : List Nat) (rep : Bool) (h : s.off = false) (hr : ¬ s.room < (if rep then 0 else s.ps.length) + b.length) (ht : s.torn = false) : wrt s b rep = (0, { s with ps := (if rep then [] else s.ps) ++ b }) := by
  unfold wrt; rw [if_neg (by rw [h]; simp), if_neg hr, if_neg (by rw [ht]; simp)]

section
variable {w ws w' : World} {N RB R : Nat} {a ga a' ga' : Option Addr} {s : DS} {cs : List (List Nat)} {F F' : List Nat} {lv lz : Option Addr} {lvc lzc : Nat} {ys zs : List Rl} {tn : Bool} {t : Nat} {dn : Bool}

/-- A call has changed nothing that is seen. -/
theorem P9.same (h : P9 w ws N RB R a ga s cs F lv lvc ys tn t dn) (hk : Bk w' w.heap.size RB R a' ga' s cs F') (hm : Mv ws w' (bkM RB R a ga) (bkM RB R a' ga')) : P9 w w' N RB R a' ga' s cs F' lv lvc ys tn t dn := by
  obtain ⟨k1, k2⟩ := keepL (fun g hg => (h.st.bk.mLt hg).1) h.list (fun y hy => (h.each y hy).2.2) h.ap hm
  exact ⟨h.st.mv hk hm, k1, h.each, k2, h.room, h.down, h.up, h.tail, h.cl⟩

/-- A write has gone through: the records are zs now. -/
theorem P9.done (h : P9 w ws N RB R a ga s cs F lv lvc ys tn t dn) {s' : DS} {cs' : List (List Nat)} (hk : Bk w' w.heap.size RB R a' ga' s' cs' F') (hm : Mv ws w' (bkM RB R a ga) (bkM RB R a' ga')) (hz : RcA w' lz lzc zs) (he : ∀ z ∈ zs, GoodX z ∧ z.lo = 0 ∧ z.hi = w.heap.size) (ha : ∀ g ∈ blk lz, g ∉ bkM RB R a' ga' ∧ g < w'.heap.size)
    (hr : s'.room = s.room) (ho : s'.off = false) (ht : s'.torn = false) (hp : s'.ps = frms (zs.map encX)) (hc : cs' = zs.map encX) (hl : zs.length ≤ 30) : P9 w w' N RB R a' ga' s' cs' F' lz lzc zs false t false :=
  ⟨h.st.mv hk hm, hz, he, ha, hr.trans h.room, ho, fun _ => ⟨hp, hc, ht, fun e => by cases e⟩, ⟨[], by rw [hp, List.append_nil], isF_nil⟩, by rw [hc, List.length_map]; exact hl⟩

/-- A write was torn: the records on the disk are zs, and q is behind them. -/
theorem P9.fell (h : P9 w ws N RB R a ga s cs F lv lvc ys tn t dn) {s' : DS} (q : List Nat) (hk : Bk w' w.heap.size RB R a' ga' s' cs F') (hm : Mv ws w' (bkM RB R a ga) (bkM RB R a' ga')) (hz : RcA w' lz lzc zs) (he : ∀ z ∈ zs, GoodX z ∧ z.lo = 0 ∧ z.hi = w.heap.size) (ha : ∀ g ∈ blk lz, g ∉ bkM RB R a' ga' ∧ g < w'.heap.size)
    (hr : s'.room = s.room) (ho : s'.off = true) (hp : s'.ps = frms (zs.map encX) ++ q) (hq : isF q = false) : P9 w w' N RB R a' ga' s' cs F' lz lzc zs false t true :=
  ⟨h.st.mv hk hm, hz, he, ha, hr.trans h.room, ho, fun e => (by cases e), ⟨q, hp, hq⟩, h.cl⟩

end

theorem slice_fromR (a : Option Addr) (l c n : Nat) (hn : n ≤ l) (w : World) : (Instr.slice 30 (.slice a l c) (some (.int .i64 (n : Int))) none none).run Try.prog w = .ok (.slice (fromR a c n) (l - n) (c - n)) w := by
  rw [run_slice_l w 30 a l c (by kernel_rfl) .i64 (n : Int) (by omega) (by omega)]
  have hs : (sizeOf (Try.prog.elem 30)).run Try.prog w = .ok 6 w := by kernel_rfl
  rw [hs]
  simp only [Result.andThen, sliced, fromR, Int.toNat_natCast]

theorem slice_fromR' (a : Option Addr) (l c n : Nat) (hn : n ≤ l) (w : World) : (Instr.sliceAt 30 (.slice a l c) (some (.int .i64 (n : Int))) none none).run Try.prog w = .ok (.slice (fromR a c n) (l - n) (c - n)) w := by
  rw [run_sliceAt_slice w 30 _ _ _ _ (by kernel_rfl)]
  exact slice_fromR a l c n hn w

end Go.Proofs.Ytfcjnhcolkpppaa
