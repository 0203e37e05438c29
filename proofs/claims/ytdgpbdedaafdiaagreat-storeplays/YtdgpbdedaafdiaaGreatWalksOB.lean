/-
  What is known of an argument that is a slice of a store's acts.
  A store in step with its disk; the law's call; Open anew.
-/
import Derived.Test.YtdgpbdedaafdiaaGreatArgR
import Derived.Test.YtdgpbdedaafdiaaGreatWalksO9
import Derived.Deep.DeepCutAuto
namespace Go.Proofs.YtdgpbdedaafdiaaGreat
open Go.ChangeShapes Go.WideShapes Go.ChangeAt Go.RowKit

/-- An act, as it lies in memory. -/
structure As where
  what : Int
  n : Int
  e : Pe
  loc : Option Addr
  c : Nat
  r : Pr
  ma : Option Addr
  mc : Nat
  ea : Option Addr
  ec : Nat

def as0 : As := ⟨0, 0, pe0, none, 0, pr0, none, 0, none, 0⟩

def As.cells (y : As) : List Value :=
  [.int .i64 y.what, .int .i64 y.n, .int .i64 y.e.seq, .int .i64 y.e.client, .int .i64 y.e.num, .int .i64 y.e.op, .string (strB y.e.key), .int .i64 y.e.size, .int .u32 (y.e.sum : Int), .slice y.loc y.e.frag.length y.c,
    .int .i64 y.r.kind, .int .i64 y.r.epoch, .slice y.ma y.r.mem.length y.mc, .int .i64 y.r.pos, .int .i64 y.r.last, .slice y.ea y.r.ents.length y.ec]

/-- What is read of an act. -/
structure AsAt (w : World) (y : As) : Prop where
  rc : RecAt w y.ma y.mc y.ea y.ec y.r
  seen : SeenAt w y.loc y.c y.e.frag
  ewf : y.e.Wf
  what : I64 y.what
  n : I64 y.n

theorem AsAt.below {w w' : World} {y : As} (h : AsAt w y) (hb : Below w.heap.size w w') : AsAt w' y := ⟨h.rc.below hb, h.seen.below hb, h.ewf, h.what, h.n⟩

structure Acts14 (w : World) (a : Option Addr) (cap : Nat) (es : List As) : Prop where
  le : es.length ≤ cap
  max : cap ≤ maxLen
  cell : ∀ i, i < es.length → ∃ b off, a = some ⟨b, off, none⟩ ∧ ∀ k v, (es.getD i as0).cells[k]? = some v → w.cell? ⟨b, off + i * 16 + k, none⟩ = some v
  at_ : ∀ e ∈ es, AsAt w e

theorem Acts14.below {w w' : World} {a : Option Addr} {cap : Nat} {es : List As} (h : Acts14 w a cap es) (hb : Below w.heap.size w w') : Acts14 w' a cap es :=
  ⟨h.le, h.max, fun i hi => by
    obtain ⟨b, off, e, hc⟩ := h.cell i hi
    exact ⟨b, off, e, fun k v hk => cell_later hb (hc k v hk)⟩, fun e he => (h.at_ e he).below hb⟩

theorem Acts14.nil {w : World} {a : Option Addr} {cap : Nat} (h : cap ≤ maxLen) : Acts14 w a cap [] := ⟨Nat.zero_le _, h, fun i hi => by simp at hi, by simp⟩

theorem c_act14 : Tryz.prog.cellsOf 43 = 16 := by kernel_rfl

section
variable {H : Type} {enc : TypeId × Value → H} {W : World}

set_option maxRecDepth 100000 in
theorem act14_cells {fuel : Nat} {cs : List Value} {x : DataW H × List MemPlace} (h : DataW.trod enc Tryz.prog W 0 (fun _ => true) true fuel 43 cs = some x) :
    ∃ y : As, cs = y.cells ∧ AsAt W y := by
  obtain ⟨xs, n, _, _, hl, hxl, hf⟩ := DataW.trod_struct Tryz.underlying43 h
  rw [c_act14] at hl
  match xs, hxl, cs, hl with
  | [y0, y1, y2, y3], _, [v0, v1, v2, v3, v4, v5, v6, v7, v8, v9, v10, v11, v12, v13, v14, v15], _ =>
    have g0 := hf 0 _ rfl
    have g1 := hf 1 _ rfl
    have g2 := hf 2 _ rfl
    have g3 := hf 3 _ rfl
    simp [c_int, c_ent, c_rec] at g0 g1 g2 g3
    obtain ⟨z0, e0, _, w0⟩ := DataW.trod_int Tryz.underlying3 g0
    obtain ⟨z1, e1, _, w1⟩ := DataW.trod_int Tryz.underlying3 g1
    obtain ⟨p, loc, c, e2, hs, hw⟩ := ent_cells g2
    obtain ⟨r, ma, mc, ea, ec, e3, hr⟩ := rec_cells g3
    simp at e0 e1 e2 e3
    obtain ⟨rfl, rfl, rfl, rfl, rfl, rfl, rfl, rfl⟩ := e2
    obtain ⟨rfl, rfl, rfl, rfl, rfl, rfl⟩ := e3
    subst e0 e1
    exact ⟨⟨z0, z1, p, loc, c, r, ma, mc, ea, ec⟩, rfl, ⟨hr, hs, hw, wf_i64 w0, wf_i64 w1⟩⟩

/-- An argument that is a slice of acts. -/
theorem acts14_arg {a : Option Addr} {len cap : Nat} {d : DataW H} {ps : List MemPlace} (h : DataW.Trod enc Tryz.prog W 0 (fun _ => true) true 22 (.slice a len cap) d ps) :
    ∃ es : List As, es.length = len ∧ Acts14 W a cap es := by
  obtain ⟨fuel, hf⟩ := h
  rcases Go.Deep.open_slice Tryz.underlying22 hf with ⟨hcs, _⟩ | ⟨ad, l, c, m, n, D, Pl, hcs, _, hl, hm, hmm, _, hel⟩
  · simp [Value.cells] at hcs
    obtain ⟨rfl, rfl, rfl⟩ := hcs
    exact ⟨[], rfl, Acts14.nil (Nat.zero_le _)⟩
  · simp [Value.cells] at hcs
    obtain ⟨rfl, rfl, rfl⟩ := hcs
    have hmc : m = cap := by simpa using hmm
    subst hmc
    have each : ∀ i, i < len → ∃ e : As, AsAt W e ∧ ∀ k u, e.cells[k]? = some u → W.cell? (ad.add (i * 16 + k)) = some u := by
      intro i hi
      obtain ⟨cs, hc, ht⟩ := hel i (by omega)
      rw [c_act14] at hc
      obtain ⟨e, rfl, hr⟩ := act14_cells ht
      obtain ⟨_, _, hcell⟩ := World.cells?_some hc
      refine ⟨e, hr, fun k u hk => ?_⟩
      have hk16 : k < 16 := by
        have := (List.getElem?_eq_some_iff.1 hk).1
        simpa [As.cells] using this
      have := hcell k hk16
      rw [hk, Go.Deep.add_add] at this
      exact this
    obtain ⟨es, hes, hE⟩ := pick_any as0 len each
    refine ⟨es, hes, ⟨by omega, hm, fun i hi => ?_, fun y hy => ?_⟩⟩
    · obtain ⟨b, off, rfl⟩ : ∃ b off, ad = ⟨b, off, none⟩ := addr_of ((hE 0 (by omega)).2 0 _ rfl)
      refine ⟨b, off, rfl, fun k u hk => ?_⟩
      have := (hE i (by omega)).2 k u hk
      rw [Go.WideShapes.add_plain, ← Nat.add_assoc] at this
      exact this
    · obtain ⟨i, hi, rfl⟩ := List.mem_iff_getElem.mp hy
      have := (hE i (by omega)).1
      rwa [List.getD_eq_getElem?_getD, List.getElem?_eq_getElem hi] at this

end

end Go.Proofs.YtdgpbdedaafdiaaGreat

namespace Go.Proofs.YtdgpbdedaafdiaaGreat
open Go.RowKit

/-- In step: the disk is on and holds the records' frames. -/
structure Stp (d : DS) (rs : List Pr) : Prop where
  on : d.off = false
  whole : d.torn = false
  ps : d.ps = frms (rs.map encR)

theorem stp_wq {d : DS} {rs : List Pr} (h : Stp d rs) (r : Pr) (rep : Bool) : Stp (wq d r rep).2 (nxt rs r rep (wq d r rep).1) := by
  cases hs : sndR r
  · rw [wq_no _ _ _ hs, nxt_no _ _ _ _ (show (2 : Int) ≠ 0 by decide)]
    exact h
  · rw [wq_yes _ _ _ hs]
    unfold wrt
    rw [h.on, h.whole]
    cases rep
    · by_cases hr : d.room < d.ps.length + (frm (encR r)).length
      · simp only [Bool.false_eq_true, if_false, if_pos hr]
        rw [nxt_no _ _ _ _ (show (5 : Int) ≠ 0 by decide)]
        exact h
      · simp only [Bool.false_eq_true, if_false, if_neg hr]
        rw [nxt_app _ _ _ rfl]
        refine ⟨rfl, rfl, ?_⟩
        show d.ps ++ frm (encR r) = _
        rw [h.ps, List.map_append, List.map_cons, List.map_nil, frms_snoc]
    · by_cases hr : d.room < 0 + (frm (encR r)).length
      · simp only [Bool.false_eq_true, if_false, if_true, if_pos hr]
        rw [nxt_no _ _ _ _ (show (5 : Int) ≠ 0 by decide)]
        exact h
      · simp only [Bool.false_eq_true, if_false, if_true, if_neg hr]
        rw [nxt_rep _ _ _ rfl]
        refine ⟨rfl, rfl, ?_⟩
        show [] ++ frm (encR r) = _
        rw [List.nil_append, List.map_cons, List.map_nil, frms_one]

theorem stp_act {d : DS} {rs : List Pr} (h : Stp d rs) (pre : Option Int) (r : Pr) (rep : Bool) : Stp (act d rs pre r rep).1.2 (act d rs pre r rep).2 := by
  unfold act
  cases pre with
  | none => exact stp_wq h r rep
  | some n => exact h

theorem len_act (d : DS) (rs : List Pr) (pre : Option Int) (r : Pr) (rep : Bool) : (act d rs pre r rep).2.length ≤ rs.length + 1 := by
  unfold act
  cases pre with
  | some n => show rs.length ≤ _; omega
  | none =>
    show (nxt _ _ _ _).length ≤ _
    unfold nxt
    split
    · split
      · simp
      · rw [List.length_append]; simp
    · omega

/-- What the law's call does. -/
def doA (d : DS) (rs : List Pr) (s : Ss) (y : As) : (Int × DS) × List Pr :=
  if y.what = 0 then act d rs (preLog s y.e) (recLog y.e) false
  else if y.what = 1 then act d rs (preSeal s) recSeal false
  else if y.what = 2 then act d rs (preStage s y.r.epoch) (recStage y.r.epoch y.r.mem y.r.pos y.r.last y.r.ents) false
  else if y.what = 3 then act d rs (preActivate s y.n) (recAct s) true
  else act d rs (preBegin s y.r.epoch) (recBegin y.r.epoch y.r.mem y.r.pos) true

/-- It is one of the five. -/
theorem doA_is (d : DS) (rs : List Pr) (s : Ss) (y : As) {P : (Int × DS) × List Pr → Prop} (h : ∀ pre r rep, P (act d rs pre r rep)) : P (doA d rs s y) := by
  unfold doA
  repeat' split
  all_goals exact h _ _ _

theorem stp_doA {d : DS} {rs : List Pr} (h : Stp d rs) (s : Ss) (y : As) : Stp (doA d rs s y).1.2 (doA d rs s y).2 := doA_is d rs s y (P := fun p => Stp p.1.2 p.2) fun _ _ _ => stp_act h _ _ _
theorem len_doA (d : DS) (rs : List Pr) (s : Ss) (y : As) : (doA d rs s y).2.length ≤ rs.length + 1 := doA_is d rs s y (P := fun p => p.2.length ≤ rs.length + 1) fun _ _ _ => len_act _ _ _ _ _

theorem recStage_wf {r : Pr} (h : r.Wf) : (recStage r.epoch r.mem r.pos r.last r.ents).Wf := ⟨i64_k (by simp [recStage]), h.epoch, h.mem, h.pos, h.last, h.ents⟩
theorem recBegin_wf {r : Pr} (h : r.Wf) : (recBegin r.epoch r.mem r.pos).Wf := ⟨i64_k (by simp [recBegin]), h.epoch, h.mem, h.pos, i64_k (by simp [recBegin]), by simp [recBegin]⟩

section
variable {w w' : World} {base SB R : Nat} {M : List Nat} {d : DS} {rs : List Pr} {s : Ss}

set_option maxRecDepth 100000 in
set_option maxHeartbeats 4000000 in
theorem lawCall_any (y : As) (h : So w base SB R M d rs s) (hl : rs.length ≤ 100000) (ha : Kp M w fun x => AsAt x y) (h6 : y.r.ents.length ≤ 6) :
    Calls Tryz.prog 9 #[.pointer (some ⟨SB, 0, none⟩), .agg y.cells.toArray] w (RetMu w base SB R M (doA d rs s y).1 (doA d rs s y).2) := by
  obtain ⟨what, n, e, loc, c, r, ma, mc, ea, ec⟩ := y
  unfold As.cells
  dsimp only at h6 ⊢
  obtain ⟨lf, hlf⟩ : ∃ q, e.frag.length = q := ⟨_, rfl⟩
  obtain ⟨lm, hlm⟩ : ∃ q, r.mem.length = q := ⟨_, rfl⟩
  obtain ⟨le, hle⟩ : ∃ q, r.ents.length = q := ⟨_, rfl⟩
  rw [hlf, hlm, hle]
  have HLF := Lib.hid hlf
  have HLM := Lib.hid hlm
  have HLE := Lib.hid hle
  have hbl := below_one w (.cells #[.int .i64 what, .int .i64 n, .int .i64 e.seq, .int .i64 e.client, .int .i64 e.num, .int .i64 e.op, .string (strB e.key), .int .i64 e.size, .int .u32 (e.sum : Int), .slice loc lf c, .int .i64 r.kind, .int .i64 r.epoch, .slice ma lm mc, .int .i64 r.pos, .int .i64 r.last, .slice ea le ec] 43)
  have HB0 : Hid (Box (w.alloc (.cells #[.int .i64 what, .int .i64 n, .int .i64 e.seq, .int .i64 e.client, .int .i64 e.num, .int .i64 e.op, .string (strB e.key), .int .i64 e.size, .int .u32 (e.sum : Int), .slice loc lf c, .int .i64 r.kind, .int .i64 r.epoch, .slice ma lm mc, .int .i64 r.pos, .int .i64 r.last, .slice ea le ec] 43)) w.heap.size #[.int .i64 what, .int .i64 n, .int .i64 e.seq, .int .i64 e.client, .int .i64 e.num, .int .i64 e.op, .string (strB e.key), .int .i64 e.size, .int .u32 (e.sum : Int), .slice loc lf c, .int .i64 r.kind, .int .i64 r.epoch, .slice ma lm mc, .int .i64 r.pos, .int .i64 r.last, .slice ea le ec]) := box_new _ _ _ _ rfl
  have HE0 := Lib.hid hbl
  have HS := Lib.hid (h.below hbl)
  have HA := Lib.hid (ha.below hbl)
  clear h ha hbl hlf hlm hle
  go_enter Tryz.func9, Tryz.ntmps9
  by_cases h0 : what = 0
  · have d0 : (what == 0) = true := by simp [h0]
    have HEQ : Hid ((doA d rs s ⟨what, n, e, loc, c, r, ma, mc, ea, ec⟩) = act d rs (preLog s e) (recLog e) false) := by show _ = _; unfold doA; rw [if_pos h0]
    clear h0
    go_wp2_with fail
    generalize (w.alloc (.cells #[.int .i64 what, .int .i64 n, .int .i64 e.seq, .int .i64 e.client, .int .i64 e.num, .int .i64 e.op, .string (strB e.key), .int .i64 e.size, .int .u32 (e.sum : Int), .slice loc lf c, .int .i64 r.kind, .int .i64 r.epoch, .slice ma lm mc, .int .i64 r.pos, .int .i64 r.last, .slice ea le ec] 43)) = w0 at *
    refine (stLog_any e loc c lf HLF.out HS.out hl (HA.out.imp fun x hx => hx.seen) HA.out.now.ewf).mono ?_
    intro x w3 hw
    rw [← HEQ.out] at hw
    have HF := Lib.hid (hw.bel HE0.out)
    obtain ⟨rfl, -⟩ := hw
    generalize (doA d rs s ⟨what, n, e, loc, c, r, ma, mc, ea, ec⟩) = p at *
    go_wp2
    go_ret
    exact HF.out
  · have d0 : (what == 0) = false := by simp [h0]
    by_cases h1 : what = 1
    · have d1 : (what == 1) = true := by simp [h1]
      have HEQ : Hid ((doA d rs s ⟨what, n, e, loc, c, r, ma, mc, ea, ec⟩) = act d rs (preSeal s) recSeal false) := by show _ = _; unfold doA; rw [if_neg h0, if_pos h1]
      clear h1 h0
      go_wp2_with fail
      generalize (w.alloc (.cells #[.int .i64 what, .int .i64 n, .int .i64 e.seq, .int .i64 e.client, .int .i64 e.num, .int .i64 e.op, .string (strB e.key), .int .i64 e.size, .int .u32 (e.sum : Int), .slice loc lf c, .int .i64 r.kind, .int .i64 r.epoch, .slice ma lm mc, .int .i64 r.pos, .int .i64 r.last, .slice ea le ec] 43)) = w0 at *
      refine (stSeal_any HS.out hl).mono ?_
      intro x w3 hw
      rw [← HEQ.out] at hw
      have HF := Lib.hid (hw.bel HE0.out)
      obtain ⟨rfl, -⟩ := hw
      generalize (doA d rs s ⟨what, n, e, loc, c, r, ma, mc, ea, ec⟩) = p at *
      go_wp2
      go_ret
      exact HF.out
    · have d1 : (what == 1) = false := by simp [h1]
      by_cases h2 : what = 2
      · have d2 : (what == 2) = true := by simp [h2]
        have HEQ : Hid ((doA d rs s ⟨what, n, e, loc, c, r, ma, mc, ea, ec⟩) = act d rs (preStage s r.epoch) (recStage r.epoch r.mem r.pos r.last r.ents) false) := by show _ = _; unfold doA; rw [if_neg h0, if_neg h1, if_pos h2]
        clear h2 h0 h1
        go_wp2_with fail
        generalize (w.alloc (.cells #[.int .i64 what, .int .i64 n, .int .i64 e.seq, .int .i64 e.client, .int .i64 e.num, .int .i64 e.op, .string (strB e.key), .int .i64 e.size, .int .u32 (e.sum : Int), .slice loc lf c, .int .i64 r.kind, .int .i64 r.epoch, .slice ma lm mc, .int .i64 r.pos, .int .i64 r.last, .slice ea le ec] 43)) = w0 at *
        refine (stStage_any r.epoch r.pos r.last ma ea mc ec lm le r.mem r.ents HLM.out HLE.out HS.out hl (HA.out.imp fun x hx => ⟨hx.rc.mem, hx.rc.ents, recStage_wf HA.out.now.rc.wf⟩) h6).mono ?_
        intro x w3 hw
        rw [← HEQ.out] at hw
        have HF := Lib.hid (hw.bel HE0.out)
        obtain ⟨rfl, -⟩ := hw
        generalize (doA d rs s ⟨what, n, e, loc, c, r, ma, mc, ea, ec⟩) = p at *
        go_wp2
        go_ret
        exact HF.out
      · have d2 : (what == 2) = false := by simp [h2]
        by_cases h3 : what = 3
        · have d3 : (what == 3) = true := by simp [h3]
          have HEQ : Hid ((doA d rs s ⟨what, n, e, loc, c, r, ma, mc, ea, ec⟩) = act d rs (preActivate s n) (recAct s) true) := by show _ = _; unfold doA; rw [if_neg h0, if_neg h1, if_neg h2, if_pos h3]
          clear h3 h0 h1 h2
          go_wp2_with fail
          generalize (w.alloc (.cells #[.int .i64 what, .int .i64 n, .int .i64 e.seq, .int .i64 e.client, .int .i64 e.num, .int .i64 e.op, .string (strB e.key), .int .i64 e.size, .int .u32 (e.sum : Int), .slice loc lf c, .int .i64 r.kind, .int .i64 r.epoch, .slice ma lm mc, .int .i64 r.pos, .int .i64 r.last, .slice ea le ec] 43)) = w0 at *
          refine (stActivate_any n HS.out hl).mono ?_
          intro x w3 hw
          rw [← HEQ.out] at hw
          have HF := Lib.hid (hw.bel HE0.out)
          obtain ⟨rfl, -⟩ := hw
          generalize (doA d rs s ⟨what, n, e, loc, c, r, ma, mc, ea, ec⟩) = p at *
          go_wp2
          go_ret
          exact HF.out
        · have d3 : (what == 3) = false := by simp [h3]
          have HEQ : Hid ((doA d rs s ⟨what, n, e, loc, c, r, ma, mc, ea, ec⟩) = act d rs (preBegin s r.epoch) (recBegin r.epoch r.mem r.pos) true) := by show _ = _; unfold doA; rw [if_neg h0, if_neg h1, if_neg h2, if_neg h3]
          clear h0 h1 h2 h3
          go_wp2_with fail
          generalize (w.alloc (.cells #[.int .i64 what, .int .i64 n, .int .i64 e.seq, .int .i64 e.client, .int .i64 e.num, .int .i64 e.op, .string (strB e.key), .int .i64 e.size, .int .u32 (e.sum : Int), .slice loc lf c, .int .i64 r.kind, .int .i64 r.epoch, .slice ma lm mc, .int .i64 r.pos, .int .i64 r.last, .slice ea le ec] 43)) = w0 at *
          refine (stBegin_any r.epoch r.pos ma mc lm r.mem HLM.out HS.out hl (HA.out.imp fun x hx => hx.rc.mem) (recBegin_wf HA.out.now.rc.wf)).mono ?_
          intro x w3 hw
          rw [← HEQ.out] at hw
          have HF := Lib.hid (hw.bel HE0.out)
          obtain ⟨rfl, -⟩ := hw
          generalize (doA d rs s ⟨what, n, e, loc, c, r, ma, mc, ea, ec⟩) = p at *
          go_wp2
          go_ret
          exact HF.out

/-- The disk's blocks may turn: what the store tells stays. -/
theorem SoX.someC {cs : List (List Nat)} {L : Lay} (h : SoX w base SB R d cs s L) (hc : Chg (R :: blk L.a) w w') : SomeV (.pointer (some ⟨SB, 0, none⟩)) w' (.pointer (some ⟨L.RB, 0, none⟩)) s L := by
  have hsub : ∀ g ∈ R :: blk L.a, g ∈ bkM L.RB R L.a L.ga := fun g hg => by
    unfold bkM
    simp only [List.mem_cons, List.mem_append] at hg ⊢
    rcases hg with e | e
    · exact .inr (.inl e)
    · exact .inr (.inr (.inl e))
  have hM : ∀ g ∈ R :: blk L.a, g ∈ L.M SB R := fun g hg => Lay.mem.2 (.inr (.inl (hsub g hg)))
  have hb := h.box.chg hc (fun e => h.nS.1 (hsub _ e))
  refine ⟨fun w1 hb1 => (stSome_any SB w1).mono fun _ _ ⟨h1, h2⟩ => by subst h2; exact ⟨⟨SB, h1, hb.chg (gs := []) (Chg.of_below hb1) (by simp)⟩, Below.refl _ _⟩, h.mem _ _ hc fun g hg => .inl (hM g hg), ?_⟩
  exact (h.own.go (M' := L.M SB R) hc (fun g hg => .inl (hM g hg)) (fun g hg e => (h.nN g hg).1 (hsub g e)) fun _ hg => .inl hg).ens

/-- A store tells of itself. -/
def Tel (w : World) (SB : Nat) (s : Ss) : Prop := ∃ bp L, SomeV (.pointer (some ⟨SB, 0, none⟩)) w bp s L

theorem Tel.below (h : Tel w SB s) (hb : Below w.heap.size w w') : Tel w' SB s := by
  obtain ⟨bp, L, h⟩ := h
  exact ⟨bp, L, h.below hb⟩

theorem So.tel (h : So w base SB R M d rs s) : Tel w SB s := by
  obtain ⟨_, _, L, _, hx⟩ := h
  exact ⟨_, L, hx.someV⟩

theorem gr_dec {rs : List Pr} (hg : ∀ r ∈ rs, Gr r) : (rs.map encR).map decR = rs := by
  rw [List.map_map]
  refine (List.map_congr_left (g := id) fun r hr => ?_).trans (List.map_id rs)
  exact (dec_yes r (hg r hr).wf (hg r hr).snd).2

theorem gr_inj {rs rs' : List Pr} (hg : ∀ r ∈ rs, Gr r) (hg' : ∀ r ∈ rs', Gr r) (h : rs'.map encR = rs.map encR) : rs' = rs := by
  rw [← gr_dec hg', h, gr_dec hg]

theorem gr_good {rs : List Pr} (hg : ∀ r ∈ rs, Gr r) : ∀ c ∈ rs.map encR, decB c = true ∧ c.length < 4294967296 := fun c hc => by
  obtain ⟨r, hr, rfl⟩ := List.mem_map.mp hc
  exact enc_good r (hg r hr).wf (hg r hr).snd

/-- What Open answers about a store's disk. -/
def RetAg (w : World) (base SB R : Nat) (M : List Nat) (d : DS) (rs : List Pr) (s : Ss) (e : Ending) (w' : World) : Prop :=
  ∃ TB M', e = .returned (.tuple #[.pointer (some ⟨TB, 0, none⟩), .int .i64 0]) ∧ So w' base TB R M' d rs s ∧ Mv w w' M M' ∧ Tel w' SB s

/-- A store in step is opened again. -/
theorem stOpen_again (h : So w base SB R M d rs s) (hp : Stp d rs) (hl : rs.length ≤ 100000) : Calls Tryz.prog 5 #[.pointer (some ⟨R, 0, none⟩)] w (RetAg w base SB R M d rs s) := by
  obtain ⟨hrun, hg, L, rfl, hx⟩ := h
  refine (stOpen_any base R L.a d w hx.bk.dsk hp.on hp.whole fun cs rest hv => ?_).mono ?_
  · rw [hp.ps] at hv
    obtain ⟨rfl, -⟩ := vld_whole _ _ _ (gr_good hg) hv
    exact ⟨rs, rfl, hg, hl⟩
  · rintro e w' ⟨TB, rs', M', rest, rfl, hv, hs, hm⟩
    rw [hp.ps] at hv
    obtain ⟨he, -⟩ := vld_whole _ _ _ (gr_good hg) hv
    obtain rfl := gr_inj hg hs.2.1 he
    have hsub : ∀ g ∈ R :: blk L.a, g ∈ L.M SB R := fun g hg => by
      refine Lay.mem.2 (.inr (.inl ?_))
      unfold bkM
      simp only [List.mem_cons, List.mem_append] at hg ⊢
      rcases hg with e | e
      · exact .inr (.inl e)
      · exact .inr (.inr (.inl e))
    refine ⟨TB, M', rfl, ?_, ⟨hm.chg.mono hsub, fun g hg => ?_⟩, ⟨_, L, hx.someC hm.chg⟩⟩
    · have : ({ d with ps := frms (rs'.map encR) } : DS) = d := by rw [← hp.ps]
      rw [this, hrun] at hs
      exact hs
    · rcases hm.now g hg with e | e
      · exact .inl (hsub g e)
      · exact .inr e

/-- What Open answers about a new disk. -/
def RetNw (w : World) (base R : Nat) (d : DS) (e : Ending) (w' : World) : Prop :=
  ∃ SB M, e = .returned (.tuple #[.pointer (some ⟨SB, 0, none⟩), .int .i64 0]) ∧ So w' base SB R M d [] ss0 ∧ Mv w w' [R] M

theorem stOpen_new {room : Nat} {lim : Nat} (h : Dsk w base R none ⟨[], room, false, false, lim⟩) : Calls Tryz.prog 5 #[.pointer (some ⟨R, 0, none⟩)] w (RetNw w base R ⟨[], room, false, false, lim⟩) := by
  refine (stOpen_any base R none _ w h rfl rfl fun cs rest hv => ?_).mono ?_
  · obtain ⟨rfl, -⟩ := vld_none _ _ _ hv isF_nil
    exact ⟨[], rfl, by simp, Nat.zero_le _⟩
  · rintro e w' ⟨SB, rs', M', rest, rfl, hv, hs, hm⟩
    obtain ⟨he, -⟩ := vld_none _ _ _ hv isF_nil
    obtain rfl := List.map_eq_nil_iff.mp he
    exact ⟨SB, M', rfl, hs, hm⟩

end

end Go.Proofs.YtdgpbdedaafdiaaGreat
