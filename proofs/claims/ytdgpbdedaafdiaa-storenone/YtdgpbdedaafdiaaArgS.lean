/-
  What is known of an argument that is a slice of a store's acts.
-/
import Derived.Test.YtdgpbdedaafdiaaArgR
namespace Go.Proofs.Ytdgpbdedaafdiaa
open Go.ChangeShapes Go.WideShapes Go.ChangeAt Go.RowKit

/-- An act, as it lies in memory. -/
structure As where
  what : Int
  n : Int
  e : Pe
  loc : Option Addr
  c : Nat
  r : Pr
  ma : Option Addr
  mc : Nat
  ea : Option Addr
  ec : Nat

def as0 : As := ⟨0, 0, pe0, none, 0, pr0, none, 0, none, 0⟩

def As.cells (y : As) : List Value :=
  [.int .i64 y.what, .int .i64 y.n, .int .i64 y.e.seq, .int .i64 y.e.client, .int .i64 y.e.num, .int .i64 y.e.op, .string (strB y.e.key), .int .i64 y.e.size, .int .u32 (y.e.sum : Int), .slice y.loc y.e.frag.length y.c,
    .int .i64 y.r.kind, .int .i64 y.r.epoch, .slice y.ma y.r.mem.length y.mc, .int .i64 y.r.pos, .int .i64 y.r.last, .slice y.ea y.r.ents.length y.ec]

/-- What is read of an act. -/
structure AsAt (w : World) (y : As) : Prop where
  rc : RecAt w y.ma y.mc y.ea y.ec y.r
  seen : SeenAt w y.loc y.c y.e.frag
  ewf : y.e.Wf
  what : I64 y.what
  n : I64 y.n

theorem AsAt.below {w w' : World} {y : As} (h : AsAt w y) (hb : Below w.heap.size w w') : AsAt w' y := ⟨h.rc.below hb, h.seen.below hb, h.ewf, h.what, h.n⟩

structure Acts14 (w : World) (a : Option Addr) (cap : Nat) (es : List As) : Prop where
  le : es.length ≤ cap
  max : cap ≤ maxLen
  cell : ∀ i, i < es.length → ∃ b off, a = some ⟨b, off, none⟩ ∧ ∀ k v, (es.getD i as0).cells[k]? = some v → w.cell? ⟨b, off + i * 16 + k, none⟩ = some v
  at_ : ∀ e ∈ es, AsAt w e

theorem Acts14.below {w w' : World} {a : Option Addr} {cap : Nat} {es : List As} (h : Acts14 w a cap es) (hb : Below w.heap.size w w') : Acts14 w' a cap es :=
  ⟨h.le, h.max, fun i hi => by
    obtain ⟨b, off, e, hc⟩ := h.cell i hi
    exact ⟨b, off, e, fun k v hk => cell_later hb (hc k v hk)⟩, fun e he => (h.at_ e he).below hb⟩

theorem Acts14.nil {w : World} {a : Option Addr} {cap : Nat} (h : cap ≤ maxLen) : Acts14 w a cap [] := ⟨Nat.zero_le _, h, fun i hi => by simp at hi, by simp⟩

theorem c_act14 : Try.prog.cellsOf 40 = 16 := by kernel_rfl

section
variable {H : Type} {enc : TypeId × Value → H} {W : World}

set_option maxRecDepth 100000 in
theorem act14_cells {fuel : Nat} {cs : List Value} {x : DataW H × List MemPlace} (h : DataW.trod enc Try.prog W 0 (fun _ => true) true fuel 40 cs = some x) :
    ∃ y : As, cs = y.cells ∧ AsAt W y := by
  obtain ⟨xs, n, _, _, hl, hxl, hf⟩ := DataW.trod_struct Try.underlying40 h
  rw [c_act14] at hl
  match xs, hxl, cs, hl with
  | [y0, y1, y2, y3], _, [v0, v1, v2, v3, v4, v5, v6, v7, v8, v9, v10, v11, v12, v13, v14, v15], _ =>
    have g0 := hf 0 _ rfl
    have g1 := hf 1 _ rfl
    have g2 := hf 2 _ rfl
    have g3 := hf 3 _ rfl
    simp [c_int, c_ent, c_rec] at g0 g1 g2 g3
    obtain ⟨z0, e0, _, w0⟩ := DataW.trod_int Try.underlying3 g0
    obtain ⟨z1, e1, _, w1⟩ := DataW.trod_int Try.underlying3 g1
    obtain ⟨p, loc, c, e2, hs, hw⟩ := ent_cells g2
    obtain ⟨r, ma, mc, ea, ec, e3, hr⟩ := rec_cells g3
    simp at e0 e1 e2 e3
    obtain ⟨rfl, rfl, rfl, rfl, rfl, rfl, rfl, rfl⟩ := e2
    obtain ⟨rfl, rfl, rfl, rfl, rfl, rfl⟩ := e3
    subst e0 e1
    exact ⟨⟨z0, z1, p, loc, c, r, ma, mc, ea, ec⟩, rfl, ⟨hr, hs, hw, wf_i64 w0, wf_i64 w1⟩⟩

/-- An argument that is a slice of acts. -/
theorem acts14_arg {a : Option Addr} {len cap : Nat} {d : DataW H} {ps : List MemPlace} (h : DataW.Trod enc Try.prog W 0 (fun _ => true) true 22 (.slice a len cap) d ps) :
    ∃ es : List As, es.length = len ∧ Acts14 W a cap es := by
  obtain ⟨fuel, hf⟩ := h
  rcases Go.Deep.open_slice Try.underlying22 hf with ⟨hcs, _⟩ | ⟨ad, l, c, m, n, D, Pl, hcs, _, hl, hm, hmm, _, hel⟩
  · simp [Value.cells] at hcs
    obtain ⟨rfl, rfl, rfl⟩ := hcs
    exact ⟨[], rfl, Acts14.nil (Nat.zero_le _)⟩
  · simp [Value.cells] at hcs
    obtain ⟨rfl, rfl, rfl⟩ := hcs
    have hmc : m = cap := by simpa using hmm
    subst hmc
    have each : ∀ i, i < len → ∃ e : As, AsAt W e ∧ ∀ k u, e.cells[k]? = some u → W.cell? (ad.add (i * 16 + k)) = some u := by
      intro i hi
      obtain ⟨cs, hc, ht⟩ := hel i (by omega)
      rw [c_act14] at hc
      obtain ⟨e, rfl, hr⟩ := act14_cells ht
      obtain ⟨_, _, hcell⟩ := World.cells?_some hc
      refine ⟨e, hr, fun k u hk => ?_⟩
      have hk16 : k < 16 := by
        have := (List.getElem?_eq_some_iff.1 hk).1
        simpa [As.cells] using this
      have := hcell k hk16
      rw [hk, Go.Deep.add_add] at this
      exact this
    obtain ⟨es, hes, hE⟩ := pick_any as0 len each
    refine ⟨es, hes, ⟨by omega, hm, fun i hi => ?_, fun y hy => ?_⟩⟩
    · obtain ⟨b, off, rfl⟩ : ∃ b off, ad = ⟨b, off, none⟩ := addr_of ((hE 0 (by omega)).2 0 _ rfl)
      refine ⟨b, off, rfl, fun k u hk => ?_⟩
      have := (hE i (by omega)).2 k u hk
      rw [Go.WideShapes.add_plain, ← Nat.add_assoc] at this
      exact this
    · obtain ⟨i, hi, rfl⟩ := List.mem_iff_getElem.mp hy
      have := (hE i (by omega)).1
      rwa [List.getD_eq_getElem?_getD, List.getElem?_eq_getElem hi] at this

end

end Go.Proofs.Ytdgpbdedaafdiaa
