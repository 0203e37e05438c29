/-
  What is known of arguments that are slices of acts of layer 13 (three integers and a message, 22 cells), or slices of messages. The act's type is a parameter; what names it stands last and drops out where it is not there.
-/
import Derived.Test.YtggjpjpemgpeeaaMsgs
namespace Go.Proofs.Ytggjpjpemgpeeaa
open Go.ChangeShapes Go.WideShapes Go.ChangeAt Go.RowKit

/-- What happens to a net. -/
structure A13 where
  what : Int
  a : Int
  b : Int
  r : Rm

def a130 : A13 := ⟨0, 0, 0, rm0⟩

def A13.cells (x : A13) : List Value := .int .i64 x.what :: .int .i64 x.a :: .int .i64 x.b :: x.r.cells.toList

/-- The cells behind the address a hold the acts. -/
structure Acts13 (w : World) (a : Option Addr) (cap : Nat) (es : List A13) : Prop where
  le : es.length ≤ cap
  max : cap ≤ maxLen
  cell : ∀ i, i < es.length → ∃ b off, a = some ⟨b, off, none⟩ ∧ ∀ k v, (es.getD i a130).cells[k]? = some v → w.cell? ⟨b, off + i * 22 + k, none⟩ = some v
  wf : ∀ e ∈ es, I64 e.what ∧ I64 e.a ∧ I64 e.b
  at_ : ∀ e ∈ es, MsgAt w e.r

theorem Acts13.below {w w' : World} {a : Option Addr} {cap : Nat} {es : List A13} (h : Acts13 w a cap es) (hb : Below w.heap.size w w') : Acts13 w' a cap es :=
  ⟨h.le, h.max, fun i hi => by obtain ⟨b, off, e, hc⟩ := h.cell i hi; exact ⟨b, off, e, fun k v hk => cell_later hb (hc k v hk)⟩, h.wf, fun r hr => (h.at_ r hr).below hb⟩

theorem Acts13.nil {w : World} {a : Option Addr} {cap : Nat} (h : cap ≤ maxLen) : Acts13 w a cap [] := ⟨Nat.zero_le _, h, fun i hi => by simp at hi, by simp, by simp⟩

/-- An act's message from its place on. -/
theorem Acts13.box {w : World} {b off cap : Nat} {es : List A13} (h : Acts13 w (some ⟨b, off, none⟩) cap es) (i : Nat) (hi : i < es.length) : BoxO w b (off + i * 22 + 3) (es.getD i a130).r.cells := by
  obtain ⟨b', off', e, hc⟩ := h.cell i hi
  cases e
  intro k v hk
  have := hc (k + 3) v (by
    show (_ :: _ :: _ :: (es.getD i a130).r.cells.toList)[k + 3]? = _
    rw [← hk, ← Array.getElem?_toList]
    rfl)
  rw [show off + i * 22 + 3 + k = off + i * 22 + (k + 3) by omega]
  exact this

/-- t is a struct of three integers and a message. -/
structure ActT (t : TypeId) (f0 f1 f2 f3 : Field) : Prop where
  hu : Try.prog.underlying t = some (.struct #[f0, f1, f2, f3])
  t0 : f0.type = 3
  t1 : f1.type = 3
  t2 : f2.type = 3
  t3 : f3.type = 35
  o0 : f0.offset = 0
  o1 : f1.offset = 1
  o2 : f2.offset = 2
  o3 : f3.offset = 3
  ct : Try.prog.cellsOf t = 22

section
variable {H : Type} {enc : TypeId × Value → H} {W : World}

set_option maxRecDepth 100000 in
theorem act13_cells {t : TypeId} {f0 f1 f2 f3 : Field} (A : ActT t f0 f1 f2 f3) {fuel : Nat} {cs : List Value} {x : DataW H × List MemPlace} (h : DataW.trod enc Try.prog W 0 (fun _ => true) true fuel t cs = some x) :
    ∃ e : A13, cs = e.cells ∧ MsgAt W e.r ∧ I64 e.what ∧ I64 e.a ∧ I64 e.b := by
  obtain ⟨xs, n, _, _, hl, hxl, hf⟩ := DataW.trod_struct A.hu h
  rw [A.ct] at hl
  match xs, hxl, cs, hl with
  | [y0, y1, y2, y3], _, v0 :: v1 :: v2 :: rest, hl =>
    have hr : rest.length = 19 := by simpa using hl
    have g0 := hf 0 f0 rfl
    have g1 := hf 1 f1 rfl
    have g2 := hf 2 f2 rfl
    have g3 := hf 3 f3 rfl
    rw [A.t0, A.o0, c_int] at g0
    rw [A.t1, A.o1, c_int] at g1
    rw [A.t2, A.o2, c_int] at g2
    rw [A.t3, A.o3, c_msg] at g3
    simp only [List.drop_zero, List.take_succ_cons, List.take_zero, List.drop_succ_cons, List.getElem?_cons_zero, List.getElem?_cons_succ] at g0 g1 g2 g3
    rw [List.take_of_length_le (by omega)] at g3
    obtain ⟨z0, e0, _, w0⟩ := DataW.trod_int Try.underlying3 g0
    obtain ⟨z1, e1, _, w1⟩ := DataW.trod_int Try.underlying3 g1
    obtain ⟨z2, e2, _, w2⟩ := DataW.trod_int Try.underlying3 g2
    obtain ⟨r, e3, hm⟩ := msg_cells g3
    simp at e0 e1 e2
    subst e0 e1 e2 e3
    exact ⟨⟨z0, z1, z2, r⟩, rfl, hm, wf_i64 w0, wf_i64 w1, wf_i64 w2⟩

theorem acts13_argT {t tS : TypeId} {f0 f1 f2 f3 : Field} (A : ActT t f0 f1 f2 f3) (hS : Try.prog.underlying tS = some (.slice t)) {a : Option Addr} {len cap : Nat} {d : DataW H} {ps : List MemPlace} (h : DataW.Trod enc Try.prog W 0 (fun _ => true) true tS (.slice a len cap) d ps) :
    ∃ es : List A13, es.length = len ∧ Acts13 W a cap es := by
  obtain ⟨fuel, hf⟩ := h
  rcases Go.Deep.open_slice hS hf with ⟨hcs, _⟩ | ⟨ad, l, c, m, n, D, Pl, hcs, _, hl, hm, hmm, _, hel⟩
  · simp [Value.cells] at hcs
    obtain ⟨rfl, rfl, rfl⟩ := hcs
    exact ⟨[], rfl, Acts13.nil (Nat.zero_le _)⟩
  · simp [Value.cells] at hcs
    obtain ⟨rfl, rfl, rfl⟩ := hcs
    have hmc : m = cap := by simpa using hmm
    subst hmc
    have each : ∀ i, i < len → ∃ e : A13, (MsgAt W e.r ∧ I64 e.what ∧ I64 e.a ∧ I64 e.b) ∧ ∀ k u, e.cells[k]? = some u → W.cell? (ad.add (i * 22 + k)) = some u := by
      intro i hi
      obtain ⟨cs, hc, ht⟩ := hel i (by omega)
      rw [A.ct] at hc
      obtain ⟨e, rfl, hr⟩ := act13_cells A ht
      obtain ⟨_, _, hcell⟩ := World.cells?_some hc
      refine ⟨e, hr, fun k u hk => ?_⟩
      have hk22 : k < 22 := by
        have := (List.getElem?_eq_some_iff.1 hk).1
        simpa [A13.cells, cells_size] using this
      have := hcell k hk22
      rw [hk, Go.Deep.add_add] at this
      exact this
    obtain ⟨es, hes, hE⟩ := pick_gen a130 len each
    refine ⟨es, hes, ⟨by omega, hm, fun i hi => ?_, each_of a130 es fun i hi => (hE i (by omega)).1.2, each_of a130 es fun i hi => (hE i (by omega)).1.1⟩⟩
    obtain ⟨b, off, rfl⟩ : ∃ b off, ad = ⟨b, off, none⟩ := addr_of ((hE 0 (by omega)).2 0 _ rfl)
    refine ⟨b, off, rfl, fun k u hk => ?_⟩
    have := (hE i (by omega)).2 k u hk
    rw [Go.WideShapes.add_plain, ← Nat.add_assoc] at this
    exact this

end

theorem msgs_arg {H : Type} {enc : TypeId × Value → H} {W : World} {a : Option Addr} {len cap : Nat} {d : DataW H} {ps : List MemPlace} (h : DataW.Trod enc Try.prog W 0 (fun _ => true) true 59 (.slice a len cap) d ps) :
    ∃ rs : List Rm, rs.length = len ∧ MsgsAt W a cap rs := msgs_argT Try.underlying59 h

end Go.Proofs.Ytggjpjpemgpeeaa
