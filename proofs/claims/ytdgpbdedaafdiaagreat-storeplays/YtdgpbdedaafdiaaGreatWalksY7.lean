/-
  What the program reads: readEntry, readList, readRecord.
  What the program reads: readList, of numbers and of entries.
  What the program reads: readList of entries, readRecord.
-/
import Derived.Test.YtdgpbdedaafdiaaGreatWalksY1
namespace Go.Proofs.YtdgpbdedaafdiaaGreat
open Go.RowKit

/-- No cell of block g is a byte. -/
def NoU8 (w : World) (g : Nat) : Prop := ∀ (i : Nat) (z : Int), w.cell? ⟨g, i, none⟩ ≠ some (.int .u8 z)

theorem SeenAt.other {w w' : World} {g cap : Nat} {a : Option Addr} {ps : List Nat} (h : SeenAt w a cap ps) (hb : Chg [g] w w') (hno : NoU8 w g) : SeenAt w' a cap ps :=
  ⟨h.le, h.max, h.byte, fun i hi => by
    obtain ⟨b, off, e, hc⟩ := h.cell i hi
    refine ⟨b, off, e, hb.cell hc ?_⟩
    intro hm
    have hg : b = g := by simpa using hm
    subst hg
    exact hno _ _ hc⟩

/-- Another block has turned. -/
theorem RdrH.other {H : Nat} {w w' : World} {R g : Nat} {s : Pk.St} (h : RdrH H w R s) (hb : Chg [g] w w') (hne : R ≠ g) (hH : H ≠ g) : RdrH H w' R s := by
  obtain ⟨a, cap, hc, hs, hn⟩ := h.rest
  refine ⟨⟨a, cap, hb.cell hc (by simpa using hne), ?_, hn⟩, hb.cell h.flag (by simpa using hne), fun k => ?_, Nat.lt_of_lt_of_le h.home hb.size⟩
  · refine hs.chg hb fun b off e => ?_
    rcases hn with e' | ⟨b', off', e', _, h'⟩
    · rw [e'] at e; cases e
    · rw [e'] at e; cases e; subst h'; simpa using hH
  · have := hb.block R h.lt (by simpa using hne)
    rw [← h.free k]
    simp [World.frozen?, this]

theorem Chg.wide {gs hs : List Nat} {a b c : World} (h : Chg gs a b) (k : Chg hs b c) (hh : ∀ g ∈ hs, g ∈ gs ∨ a.heap.size ≤ g) : Chg gs a c :=
  ⟨k.os.trans h.os, k.tape.trans h.tape, k.output.trans h.output, Nat.le_trans h.size k.size, fun i hi hn => by
    rw [k.block i (Nat.lt_of_lt_of_le hi h.size) (fun hm => by
      rcases hh i hm with h1 | h1
      · exact hn h1
      · omega), h.block i hi hn]⟩

def notU8 : Value → Bool
  | .int .u8 _ => false
  | _ => true

/-- Block B holds just these cells, of type t. -/
def Bx (w : World) (B : Nat) (t : TypeId) (C : Array Value) : Prop := w.heap[B]? = some (.cells C t (0, 0))

theorem Bx.cellq {w : World} {B : Nat} {t : TypeId} {C : Array Value} (h : Bx w B t C) (k : Nat) : w.cell? ⟨B, k, none⟩ = C[k]? := by
  unfold Bx at h
  unfold World.cell?
  rw [h]
  simp

theorem Bx.cell {w : World} {B : Nat} {t : TypeId} {C : Array Value} (h : Bx w B t C) (k : Nat) (v : Value) (hv : C[k]? = some v) : w.cell? ⟨B, k, none⟩ = some v := (h.cellq k).trans hv

theorem Bx.free {w : World} {B : Nat} {t : TypeId} {C : Array Value} (h : Bx w B t C) (k : Nat) : w.frozen? ⟨B, k, none⟩ = false := by
  unfold Bx at h
  unfold World.frozen?
  rw [h]
  simp

theorem Bx.no {w : World} {B : Nat} {t : TypeId} {C : Array Value} (h : Bx w B t C) (hC : C.toList.all notU8 = true) : NoU8 w B := by
  intro i z hc
  rw [h.cellq i, ← Array.getElem?_toList] at hc
  have := List.all_eq_true.mp hC _ (List.mem_of_getElem? hc)
  exact absurd this (by simp [notU8])

theorem Bx.lt {w : World} {B : Nat} {t : TypeId} {C : Array Value} (h : Bx w B t C) : B < w.heap.size := (Array.getElem?_eq_some_iff.1 h).1

theorem Bx.chg {gs : List Nat} {w w' : World} {B : Nat} {t : TypeId} {C : Array Value} (h : Bx w B t C) (hb : Chg gs w w') (hn : B ∉ gs) : Bx w' B t C := (hb.block B h.lt hn).trans h

/-- What readEntry and readRecord keep: the Reader, the result's variable, their own variable. -/
structure RdI (H : Nat) (w0 w : World) (R : Nat) (s : Pk.St) (t : TypeId) (Z C : Array Value) : Prop where
  rdr : RdrH H w R s
  z : Bx w w0.heap.size t Z
  c : Bx w (w0.heap.size + 1) t C
  chg : Chg [R] w0 w
  lt : R < w0.heap.size
  home : H < w0.heap.size
  no : C.toList.all notU8 = true
  noz : Z.toList.all notU8 = true

theorem all_set (C : Array Value) (k : Nat) (v : Value) (hC : C.toList.all notU8 = true) (hv : notU8 v = true) : (C.setIfInBounds k v).toList.all notU8 = true := by
  rw [Array.toList_setIfInBounds, List.all_eq_true]
  intro x hx
  rcases List.mem_or_eq_of_mem_set hx with hx | rfl
  · exact List.all_eq_true.mp hC x hx
  · exact hv

theorem RdI.read {H : Nat} {w0 w w' : World} {R : Nat} {s s' : Pk.St} {t : TypeId} {Z C : Array Value} (h : RdI H w0 w R s t Z C) (hr : RdrH H w' R s') (hb : Chg [R] w w') : RdI H w0 w' R s' t Z C :=
  ⟨hr, h.z.chg hb (by have := h.lt; simp; omega), h.c.chg hb (by have := h.lt; simp; omega), h.chg.trans hb, h.lt, h.home, h.no, h.noz⟩

theorem RdI.store {H : Nat} {w0 w : World} {R : Nat} {s : Pk.St} {t : TypeId} {Z C : Array Value} (h : RdI H w0 w R s t Z C) (k : Nat) (v : Value) (hv : notU8 v = true) :
    RdI H w0 (w.setCell ⟨w0.heap.size + 1, k, none⟩ v) R s t Z (C.setIfInBounds k v) := by
  have hc := chg_set w (w0.heap.size + 1) k v
  have hl := h.lt
  have hh := h.home
  exact ⟨h.rdr.other hc (by omega) (by omega), h.z.chg hc (by simp), heap_setCell_same w _ k C t v h.c, h.chg.wide hc (by simp), hl, hh, all_set C k v h.no hv, h.noz⟩

theorem RdI.zset {H : Nat} {w0 w : World} {R : Nat} {s : Pk.St} {t : TypeId} {Z C : Array Value} (h : RdI H w0 w R s t Z C) (k : Nat) (v : Value) (Z' : Array Value) (hZ : Z.setIfInBounds k v = Z') (hv : notU8 v = true) {a : Option Addr} {c : Nat} {ps : List Nat} (hs : SeenAt w a c ps) :
    RdI H w0 (w.setCell ⟨w0.heap.size, k, none⟩ v) R s t Z' C ∧ SeenAt (w.setCell ⟨w0.heap.size, k, none⟩ v) a c ps := by
  subst hZ
  have hc := chg_set w w0.heap.size k v
  have hl := h.lt
  have hh := h.home
  exact ⟨⟨h.rdr.other hc (by omega) (by omega), heap_setCell_same w _ k Z t v h.z, h.c.chg hc (by simp), h.chg.wide hc (by simp), hl, hh, h.no, all_set Z k v h.noz hv⟩, hs.other hc (h.z.no h.noz)⟩

theorem RdI.keep {H : Nat} {w0 w : World} {R : Nat} {s : Pk.St} {t : TypeId} {Z C : Array Value} (h : RdI H w0 w R s t Z C) (k : Nat) (v : Value) {a : Option Addr} {c : Nat} {ps : List Nat} (hs : SeenAt w a c ps) : SeenAt (w.setCell ⟨w0.heap.size + 1, k, none⟩ v) a c ps :=
  hs.other (chg_set w (w0.heap.size + 1) k v) (h.c.no h.no)

theorem RdI.fin8 {H : Nat} {w0 w : World} {R : Nat} {s : Pk.St} {t : TypeId} {y0 y1 y2 y3 y4 y5 y6 y7 : Value} {C : Array Value} (h : RdI H w0 w R s t #[y0, y1, y2, y3, y4, y5, y6, y7] C) (v0 v1 v2 v3 v4 v5 v6 v7 : Value)
    (n0 : notU8 v0 = true) (n1 : notU8 v1 = true) (n2 : notU8 v2 = true) (n3 : notU8 v3 = true) (n4 : notU8 v4 = true) (n5 : notU8 v5 = true) (n6 : notU8 v6 = true) (n7 : notU8 v7 = true) {a : Option Addr} {c : Nat} {ps : List Nat} (hs : SeenAt w a c ps) :
    RdI H w0 ((((((((w.setCell ⟨w0.heap.size, 0, none⟩ v0).setCell ⟨w0.heap.size, 1, none⟩ v1).setCell ⟨w0.heap.size, 2, none⟩ v2).setCell ⟨w0.heap.size, 3, none⟩ v3).setCell ⟨w0.heap.size, 4, none⟩ v4).setCell ⟨w0.heap.size, 5, none⟩ v5).setCell ⟨w0.heap.size, 6, none⟩ v6).setCell ⟨w0.heap.size, 7, none⟩ v7) R s t #[v0, v1, v2, v3, v4, v5, v6, v7] C ∧
    SeenAt ((((((((w.setCell ⟨w0.heap.size, 0, none⟩ v0).setCell ⟨w0.heap.size, 1, none⟩ v1).setCell ⟨w0.heap.size, 2, none⟩ v2).setCell ⟨w0.heap.size, 3, none⟩ v3).setCell ⟨w0.heap.size, 4, none⟩ v4).setCell ⟨w0.heap.size, 5, none⟩ v5).setCell ⟨w0.heap.size, 6, none⟩ v6).setCell ⟨w0.heap.size, 7, none⟩ v7) a c ps := by
  obtain ⟨h0, s0⟩ := h.zset 0 v0 #[v0, y1, y2, y3, y4, y5, y6, y7] (by simp) n0 hs
  obtain ⟨h1, s1⟩ := h0.zset 1 v1 #[v0, v1, y2, y3, y4, y5, y6, y7] (by simp) n1 s0
  obtain ⟨h2, s2⟩ := h1.zset 2 v2 #[v0, v1, v2, y3, y4, y5, y6, y7] (by simp) n2 s1
  obtain ⟨h3, s3⟩ := h2.zset 3 v3 #[v0, v1, v2, v3, y4, y5, y6, y7] (by simp) n3 s2
  obtain ⟨h4, s4⟩ := h3.zset 4 v4 #[v0, v1, v2, v3, v4, y5, y6, y7] (by simp) n4 s3
  obtain ⟨h5, s5⟩ := h4.zset 5 v5 #[v0, v1, v2, v3, v4, v5, y6, y7] (by simp) n5 s4
  obtain ⟨h6, s6⟩ := h5.zset 6 v6 #[v0, v1, v2, v3, v4, v5, v6, y7] (by simp) n6 s5
  exact h6.zset 7 v7 #[v0, v1, v2, v3, v4, v5, v6, v7] (by simp) n7 s6

theorem RdI.cell {H : Nat} {w0 w : World} {R : Nat} {s : Pk.St} {t : TypeId} {Z C : Array Value} (h : RdI H w0 w R s t Z C) (k : Nat) (v : Value) (hv : C[k]? = some v) : w.cell? ⟨w0.heap.size + 1, k, none⟩ = some v := h.c.cell k v hv
theorem RdI.free {H : Nat} {w0 w : World} {R : Nat} {s : Pk.St} {t : TypeId} {Z C : Array Value} (h : RdI H w0 w R s t Z C) (k : Nat) : w.frozen? ⟨w0.heap.size + 1, k, none⟩ = false := h.c.free k

theorem rdI_new {H : Nat} (w : World) (R : Nat) (s : Pk.St) (t : TypeId) (Z : Array Value) (h : RdrH H w R s) (hz : Z.toList.all notU8 = true) : RdI H w ((w.alloc (.cells Z t)).alloc (.cells Z t)) R s t Z Z := by
  have hb : Below w.heap.size w ((w.alloc (.cells Z t)).alloc (.cells Z t)) := (below_one w _).alloc (by simp) _
  refine ⟨h.below hb, ?_, ?_, Chg.of_below hb, h.lt, h.home, hz, hz⟩
  · show ((w.heap.push _).push _)[w.heap.size]? = _
    simp [Array.getElem?_push]
  · show ((w.heap.push _).push _)[w.heap.size + 1]? = _
    rw [Array.getElem?_push, if_pos (by simp)]

/-- An entry read by the Reader at R. -/
def REn (H : Nat) (w : World) (R : Nat) (p : Pe) (s : Pk.St) (e : Ending) (w' : World) : Prop :=
  ∃ loc cap, e = .returned (.agg #[.int .i64 p.seq, .int .i64 p.client, .int .i64 p.num, .int .i64 p.op, .string (strB p.key), .int .i64 p.size, .int .u32 (p.sum : Int), .slice loc p.frag.length cap]) ∧ SeenAt w' loc cap p.frag ∧ Fresh w w' loc ∧ RdrH H w' R s ∧ Chg [R] w w'

set_option maxRecDepth 100000 in
set_option maxHeartbeats 1000000 in
theorem readEntry_any {H : Nat} (R : Nat) (s : Pk.St) (w : World) (h : RdrH H w R s) (hl : s.1.length ≤ 100000000) :
    Calls Tryz.prog 75 #[.pointer (some ⟨R, 0, none⟩)] w (REn H w R (rdE s).1 (rdE s).2) := by
  have HI0 := Lib.hid (rdI_new w R s 41 #[.int .i64 0, .int .i64 0, .int .i64 0, .int .i64 0, .string ⟨#[]⟩, .int .i64 0, .int .u32 0, .slice none 0 0] h rfl)
  have HE : Hid (rdE s = (⟨Pk.vN s, Pk.vN (Pk.nN s), Pk.vN (Pk.nN (Pk.nN s)), Pk.vN (Pk.nN (Pk.nN (Pk.nN s))), Pk.vT (Pk.nC (Pk.nN (Pk.nN (Pk.nN (Pk.nN (Pk.nN s))))) 4294967295), Pk.vN (Pk.nN (Pk.nN (Pk.nN (Pk.nN s)))), (Pk.vC (Pk.nN (Pk.nN (Pk.nN (Pk.nN (Pk.nN s))))) 4294967295).toNat, Pk.vT (Pk.nT (Pk.nC (Pk.nN (Pk.nN (Pk.nN (Pk.nN (Pk.nN s))))) 4294967295))⟩, Pk.nT (Pk.nT (Pk.nC (Pk.nN (Pk.nN (Pk.nN (Pk.nN (Pk.nN s))))) 4294967295)))) := rfl
  clear h
  generalize rdE s = ans at *
  go_enter Tryz.func75, Tryz.ntmps75
  go_wp2_with fail
  generalize (w.alloc (.cells #[.int .i64 0, .int .i64 0, .int .i64 0, .int .i64 0, .string ⟨#[]⟩, .int .i64 0, .int .u32 0, .slice none 0 0] 41)).alloc (.cells #[.int .i64 0, .int .i64 0, .int .i64 0, .int .i64 0, .string ⟨#[]⟩, .int .i64 0, .int .u32 0, .slice none 0 0] 41) = w0 at *
  refine (rNumH R s _ HI0.out.rdr).mono ?_
  rintro e w1 ⟨rfl, hr1, hb1⟩
  have HJ := Lib.hid (HI0.out.read hr1 hb1)
  have k0 := HJ.out.cell 0 (.int .i64 0) rfl
  have f0 := HJ.out.free 0
  have L1 := Pk.nN_len s
  clear hr1 hb1 HI0
  generalize Pk.vN s = z1 at *
  generalize Pk.nN s = s1 at *
  go_wp2_with fail
  have HI1 : Hid (RdI H w (w1.setCell ⟨w.heap.size + 1, 0, none⟩ (.int .i64 z1)) R s1 41 #[.int .i64 0, .int .i64 0, .int .i64 0, .int .i64 0, .string ⟨#[]⟩, .int .i64 0, .int .u32 0, .slice none 0 0] #[.int .i64 z1, .int .i64 0, .int .i64 0, .int .i64 0, .string ⟨#[]⟩, .int .i64 0, .int .u32 0, .slice none 0 0]) := HJ.out.store 0 (.int .i64 z1) rfl
  generalize w1.setCell ⟨w.heap.size + 1, 0, none⟩ (.int .i64 z1) = x1 at *
  clear k0 f0 HJ
  refine (rNumH R s1 _ HI1.out.rdr).mono ?_
  rintro e w1 ⟨rfl, hr1, hb1⟩
  have HJ := Lib.hid (HI1.out.read hr1 hb1)
  have k0 := HJ.out.cell 1 (.int .i64 0) rfl
  have f0 := HJ.out.free 1
  have L2 := Pk.nN_len s1
  clear hr1 hb1 HI1
  generalize Pk.vN s1 = z2 at *
  generalize Pk.nN s1 = s2 at *
  go_wp2_with fail
  have HI2 : Hid (RdI H w (w1.setCell ⟨w.heap.size + 1, 1, none⟩ (.int .i64 z2)) R s2 41 #[.int .i64 0, .int .i64 0, .int .i64 0, .int .i64 0, .string ⟨#[]⟩, .int .i64 0, .int .u32 0, .slice none 0 0] #[.int .i64 z1, .int .i64 z2, .int .i64 0, .int .i64 0, .string ⟨#[]⟩, .int .i64 0, .int .u32 0, .slice none 0 0]) := HJ.out.store 1 (.int .i64 z2) rfl
  generalize w1.setCell ⟨w.heap.size + 1, 1, none⟩ (.int .i64 z2) = x2 at *
  clear k0 f0 HJ
  refine (rNumH R s2 _ HI2.out.rdr).mono ?_
  rintro e w1 ⟨rfl, hr1, hb1⟩
  have HJ := Lib.hid (HI2.out.read hr1 hb1)
  have k0 := HJ.out.cell 2 (.int .i64 0) rfl
  have f0 := HJ.out.free 2
  have L3 := Pk.nN_len s2
  clear hr1 hb1 HI2
  generalize Pk.vN s2 = z3 at *
  generalize Pk.nN s2 = s3 at *
  go_wp2_with fail
  have HI3 : Hid (RdI H w (w1.setCell ⟨w.heap.size + 1, 2, none⟩ (.int .i64 z3)) R s3 41 #[.int .i64 0, .int .i64 0, .int .i64 0, .int .i64 0, .string ⟨#[]⟩, .int .i64 0, .int .u32 0, .slice none 0 0] #[.int .i64 z1, .int .i64 z2, .int .i64 z3, .int .i64 0, .string ⟨#[]⟩, .int .i64 0, .int .u32 0, .slice none 0 0]) := HJ.out.store 2 (.int .i64 z3) rfl
  generalize w1.setCell ⟨w.heap.size + 1, 2, none⟩ (.int .i64 z3) = x3 at *
  clear k0 f0 HJ
  refine (rNumH R s3 _ HI3.out.rdr).mono ?_
  rintro e w1 ⟨rfl, hr1, hb1⟩
  have HJ := Lib.hid (HI3.out.read hr1 hb1)
  have k0 := HJ.out.cell 3 (.int .i64 0) rfl
  have f0 := HJ.out.free 3
  have L4 := Pk.nN_len s3
  clear hr1 hb1 HI3
  generalize Pk.vN s3 = z4 at *
  generalize Pk.nN s3 = s4 at *
  go_wp2_with fail
  have HI4 : Hid (RdI H w (w1.setCell ⟨w.heap.size + 1, 3, none⟩ (.int .i64 z4)) R s4 41 #[.int .i64 0, .int .i64 0, .int .i64 0, .int .i64 0, .string ⟨#[]⟩, .int .i64 0, .int .u32 0, .slice none 0 0] #[.int .i64 z1, .int .i64 z2, .int .i64 z3, .int .i64 z4, .string ⟨#[]⟩, .int .i64 0, .int .u32 0, .slice none 0 0]) := HJ.out.store 3 (.int .i64 z4) rfl
  generalize w1.setCell ⟨w.heap.size + 1, 3, none⟩ (.int .i64 z4) = x4 at *
  clear k0 f0 HJ
  refine (rNumH R s4 _ HI4.out.rdr).mono ?_
  rintro e w1 ⟨rfl, hr1, hb1⟩
  have HJ := Lib.hid (HI4.out.read hr1 hb1)
  have k0 := HJ.out.cell 5 (.int .i64 0) rfl
  have f0 := HJ.out.free 5
  have L5 := Pk.nN_len s4
  clear hr1 hb1 HI4
  generalize Pk.vN s4 = z5 at *
  generalize Pk.nN s4 = s5 at *
  go_wp2_with fail
  have HI5 : Hid (RdI H w (w1.setCell ⟨w.heap.size + 1, 5, none⟩ (.int .i64 z5)) R s5 41 #[.int .i64 0, .int .i64 0, .int .i64 0, .int .i64 0, .string ⟨#[]⟩, .int .i64 0, .int .u32 0, .slice none 0 0] #[.int .i64 z1, .int .i64 z2, .int .i64 z3, .int .i64 z4, .string ⟨#[]⟩, .int .i64 z5, .int .u32 0, .slice none 0 0]) := HJ.out.store 5 (.int .i64 z5) rfl
  generalize w1.setCell ⟨w.heap.size + 1, 5, none⟩ (.int .i64 z5) = x5 at *
  clear k0 f0 HJ
  have hc6 := vC_range s5 4294967295 (by omega)
  refine (rCountH R 4294967295 s5 _ HI5.out.rdr).mono ?_
  rintro e w1 ⟨rfl, hr1, hb1⟩
  have HJ := Lib.hid (HI5.out.read hr1 hb1)
  have k0 := HJ.out.cell 6 (.int .u32 0) rfl
  have f0 := HJ.out.free 6
  have L6 : (Pk.nC s5 4294967295).1.length ≤ s5.1.length := by
    by_cases hb : Pk.badC s5 4294967295 = true
    · rw [Pk.nC_bad s5 _ hb]; simp
    · rw [Pk.nC_good s5 _ (by simpa using hb)]; exact Pk.nN_len s5
  clear hr1 hb1 HI5
  generalize Pk.vC s5 4294967295 = z6 at *
  generalize Pk.nC s5 4294967295 = s6 at *
  obtain ⟨n6, rfl⟩ : ∃ n : Nat, z6 = (n : Int) := ⟨z6.toNat, by omega⟩
  rw [Int.toNat_natCast] at HE
  have hn6 : n6 < 4294967296 := by omega
  clear hc6
  go_wp2_with fail
  have HI6 : Hid (RdI H w (w1.setCell ⟨w.heap.size + 1, 6, none⟩ (.int .u32 (n6 : Int))) R s6 41 #[.int .i64 0, .int .i64 0, .int .i64 0, .int .i64 0, .string ⟨#[]⟩, .int .i64 0, .int .u32 0, .slice none 0 0] #[.int .i64 z1, .int .i64 z2, .int .i64 z3, .int .i64 z4, .string ⟨#[]⟩, .int .i64 z5, .int .u32 (n6 : Int), .slice none 0 0]) := HJ.out.store 6 (.int .u32 (n6 : Int)) rfl
  generalize w1.setCell ⟨w.heap.size + 1, 6, none⟩ (.int .u32 (n6 : Int)) = x6 at *
  clear k0 f0 HJ
  refine (rTextH R s6 _ HI6.out.rdr (by omega)).mono ?_
  rintro e w1 ⟨a7, c7, rfl, hs7, hr1, hb1, _⟩
  have HJ := Lib.hid (HI6.out.read hr1 hb1)
  have k0 := HJ.out.cell 4 (.string ⟨#[]⟩) rfl
  have f0 := HJ.out.free 4
  have L7 : (Pk.nT s6).1.length ≤ s6.1.length := by
    by_cases hb : Pk.badT s6 = true
    · rw [Pk.nT_bad s6 hb]; simp
    · rw [Pk.nT_good s6 (by simpa using hb)]
      have := Pk.nN_len s6
      show ((Pk.nN s6).1.drop _).length ≤ _
      rw [List.length_drop]
      omega
  have hst := str_of hs7
  clear hr1 hb1 HI6 hs7
  generalize Pk.vT s6 = t7 at *
  generalize Pk.nT s6 = s7 at *
  go_wp2_with fail
  have HI7 : Hid (RdI H w (w1.setCell ⟨w.heap.size + 1, 4, none⟩ (.string (strB t7))) R s7 41 #[.int .i64 0, .int .i64 0, .int .i64 0, .int .i64 0, .string ⟨#[]⟩, .int .i64 0, .int .u32 0, .slice none 0 0] #[.int .i64 z1, .int .i64 z2, .int .i64 z3, .int .i64 z4, .string (strB t7), .int .i64 z5, .int .u32 (n6 : Int), .slice none 0 0]) := HJ.out.store 4 (.string (strB t7)) rfl
  generalize w1.setCell ⟨w.heap.size + 1, 4, none⟩ (.string (strB t7)) = x7 at *
  clear k0 f0 HJ hst
  refine (rTextH R s7 _ HI7.out.rdr (by omega)).mono ?_
  rintro e w1 ⟨a8, c8, rfl, hs8, hr1, hb1, hf8⟩
  have HJ := Lib.hid (HI7.out.read hr1 hb1)
  have HO8 : Hid (Fresh w w1 a8) := Fresh.widen hf8 HI7.out.chg.size (Nat.le_refl _)
  have HS8 := Lib.hid hs8
  have f7 := HJ.out.free 7
  have k0 := HJ.out.cell 0 (.int .i64 z1) rfl
  have k1 := HJ.out.cell 1 (.int .i64 z2) rfl
  have k2 := HJ.out.cell 2 (.int .i64 z3) rfl
  have k3 := HJ.out.cell 3 (.int .i64 z4) rfl
  have k4 := HJ.out.cell 4 (.string (strB t7)) rfl
  have k5 := HJ.out.cell 5 (.int .i64 z5) rfl
  have k6 := HJ.out.cell 6 (.int .u32 (n6 : Int)) rfl
  have k7 := HJ.out.cell 7 (.slice none 0 0) rfl
  have y0 := HJ.out.z.cell 0 (.int .i64 0) rfl
  have y1 := HJ.out.z.cell 1 (.int .i64 0) rfl
  have y2 := HJ.out.z.cell 2 (.int .i64 0) rfl
  have y3 := HJ.out.z.cell 3 (.int .i64 0) rfl
  have y4 := HJ.out.z.cell 4 (.string ⟨#[]⟩) rfl
  have y5 := HJ.out.z.cell 5 (.int .i64 0) rfl
  have y6 := HJ.out.z.cell 6 (.int .u32 0) rfl
  have y7 := HJ.out.z.cell 7 (.slice none 0 0) rfl
  have g0 := HJ.out.z.free 0
  have g1 := HJ.out.z.free 1
  have g2 := HJ.out.z.free 2
  have g3 := HJ.out.z.free 3
  have g4 := HJ.out.z.free 4
  have g5 := HJ.out.z.free 5
  have g6 := HJ.out.z.free 6
  have g7 := HJ.out.z.free 7
  clear hr1 hb1 HI7 hs8 hf8
  generalize Pk.vT s7 = t8 at *
  generalize Pk.nT s7 = s8 at *
  have HF := Lib.hid ((HJ.out.store 7 (.slice a8 t8.length c8) rfl).fin8 (.int .i64 z1) (.int .i64 z2) (.int .i64 z3) (.int .i64 z4) (.string (strB t7)) (.int .i64 z5) (.int .u32 (n6 : Int)) (.slice a8 t8.length c8) rfl rfl rfl rfl rfl rfl rfl rfl (HJ.out.keep 7 (.slice a8 t8.length c8) HS8.out))
  have HSZ : Hid (w1.heap.size ≤ (((((((((w1.setCell ⟨w.heap.size + 1, 7, none⟩ (.slice a8 t8.length c8)).setCell ⟨w.heap.size, 0, none⟩ (.int .i64 z1)).setCell ⟨w.heap.size, 1, none⟩ (.int .i64 z2)).setCell ⟨w.heap.size, 2, none⟩ (.int .i64 z3)).setCell ⟨w.heap.size, 3, none⟩ (.int .i64 z4)).setCell ⟨w.heap.size, 4, none⟩ (.string (strB t7))).setCell ⟨w.heap.size, 5, none⟩ (.int .i64 z5)).setCell ⟨w.heap.size, 6, none⟩ (.int .u32 (n6 : Int))).setCell ⟨w.heap.size, 7, none⟩ (.slice a8 t8.length c8)).heap.size) := by show _ ≤ _; simp
  clear HS8 HJ
  go_wp2_with fail
  generalize (((((((((w1.setCell ⟨w.heap.size + 1, 7, none⟩ (.slice a8 t8.length c8)).setCell ⟨w.heap.size, 0, none⟩ (.int .i64 z1)).setCell ⟨w.heap.size, 1, none⟩ (.int .i64 z2)).setCell ⟨w.heap.size, 2, none⟩ (.int .i64 z3)).setCell ⟨w.heap.size, 3, none⟩ (.int .i64 z4)).setCell ⟨w.heap.size, 4, none⟩ (.string (strB t7))).setCell ⟨w.heap.size, 5, none⟩ (.int .i64 z5)).setCell ⟨w.heap.size, 6, none⟩ (.int .u32 (n6 : Int))).setCell ⟨w.heap.size, 7, none⟩ (.slice a8 t8.length c8)) = wf at *
  have q0 := HF.out.1.z.cell 0 (.int .i64 z1) rfl
  have q1 := HF.out.1.z.cell 1 (.int .i64 z2) rfl
  have q2 := HF.out.1.z.cell 2 (.int .i64 z3) rfl
  have q3 := HF.out.1.z.cell 3 (.int .i64 z4) rfl
  have q4 := HF.out.1.z.cell 4 (.string (strB t7)) rfl
  have q5 := HF.out.1.z.cell 5 (.int .i64 z5) rfl
  have q6 := HF.out.1.z.cell 6 (.int .u32 (n6 : Int)) rfl
  have q7 := HF.out.1.z.cell 7 (.slice a8 t8.length c8) rfl
  refine bodyPost_ret (v := .agg #[.int .i64 z1, .int .i64 z2, .int .i64 z3, .int .i64 z4, .string (strB t7), .int .i64 z5, .int .u32 (n6 : Int), .slice a8 t8.length c8]) (by simp [results, Tryz.results75, go_sem, q0, q1, q2, q3, q4, q5, q6, q7]) rfl ?_
  rw [HE.out]
  exact ⟨a8, c8, rfl, HF.out.2, HO8.out.widen (Nat.le_refl _) HSZ.out, HF.out.1.rdr, HF.out.1.chg⟩

/-! ## A struct of many cells that is loaded or stored as one operation -/

theorem run_ld {W : World} (t : TypeId) (n B o : Nat) (C : Array Value) (hs : (sizeOf t).run Tryz.prog W = .ok n W) (ha : (isAgg t).run Tryz.prog W = .ok true W) (hn : C.size = n)
    (h : ∀ i v, C[i]? = some v → W.cell? ⟨B, o + i, none⟩ = some v) : (Go.Instr.loadAt t (.pointer (some ⟨B, o, none⟩))).run Tryz.prog W = .ok (.agg C) W := by
  have h1 := run_loadCells_list (P := Tryz.prog) W ⟨B, o, none⟩ C.toList (fun j v hv => by rw [Go.WideShapes.add_plain]; exact h j v (by rw [← Array.getElem?_toList]; exact hv))
  rw [Array.toArray_toList, Array.length_toList, hn] at h1
  have hq : (if true = true then (do let s ← sizeOf t; let c ← loadCells ⟨B, o, none⟩ s; pure (Value.agg c) : Sem Value) else load ⟨B, o, none⟩).run Tryz.prog W = .ok (.agg C) W := by
    simp only [if_true, Sem.run_bind, hs, Result.andThen, h1, Sem.run_pure]
  simp only [Go.Instr.loadAt, Go.Instr.sureAddr, loadVar, Sem.run_bind, Sem.run_pure, Result.andThen, ha]
  exact hq

theorem chg_row (w : World) (B : Nat) (D : Array Value) : Chg [B] w (w.setRow B D) :=
  ⟨rfl, rfl, rfl, by simp [World.setRow], fun i hi hn => by
    have : i ≠ B := by simpa using hn
    simp only [World.setRow]
    rw [Array.getElem?_modify]
    simp [Ne.symm this]⟩

theorem run_st {w : World} (t : TypeId) (n B o : Nat) (t' : TypeId) (C D D' : Array Value) (hs : (sizeOf t).run Tryz.prog w = .ok n w) (hn : C.size = n) (h : Bx w B t' D) (hf : o + n ≤ D.size) (h1 : ∀ v ∈ C.toList, v.oneCell' = true)
    (hD : (D.toList.take o ++ C.toList ++ D.toList.drop (o + n)).toArray = D') : (Go.Instr.storeAt t (.pointer (some ⟨B, o, none⟩)) (.agg C)).run Tryz.prog w = .ok () (w.setRow B D') := by
  have hst := run_storeCells_at Tryz.prog B o t' C.toList 0 D w h (by rw [Array.length_toList, hn]; exact hf) h1
  rw [Nat.add_zero, Array.length_toList, hn, hD] at hst
  have hne : ¬ (Value.agg C).cells.size ≠ n := by show ¬ C.size ≠ n; omega
  simp only [Go.Instr.storeAt, Go.Instr.sureAddr, storeVar, Sem.run_bind, Sem.run_pure, Result.andThen, hs, if_neg hne]
  exact hst

/-- A struct is stored into a block of the call's own. -/
theorem wpList_st {ops : Array Oper} {rest : List Oper} {o : Oper} {a : Act} {Q : Exit → Act → World → Prop} {w : World} (t : TypeId) (n B off : Nat) (t' : TypeId) (C D D' : Array Value) (x y : Operand) (hgd : o.guard = none) (ho : o.op = .store t x y) (hd : o.dst = none)
    (hx : a.eval x = .pointer (some ⟨B, off, none⟩)) (hy : a.eval y = .agg C) (hs : (sizeOf t).run Tryz.prog w = .ok n w) (hn : C.size = n) (hb : Bx w B t' D) (hf : off + n ≤ D.size) (h1 : ∀ v ∈ C.toList, v.oneCell' = true)
    (hD : (D.toList.take off ++ C.toList ++ D.toList.drop (off + n)).toArray = D')
    (h : ∀ w', Bx w' B t' D' → Chg [B] w w' → wpList Tryz.prog ops Q rest a w') : wpList Tryz.prog ops Q (o :: rest) a w := by
  have hrun := run_st t n B off t' C D D' hs hn hb hf h1 hD
  refine wpList_plain hgd fun K hK => ?_
  unfold Oper.wp
  simp [execOp, ho, hx, hy, hrun, Result.andThen]
  exact hK _ _ (by rw [hd]; exact h _ (setRow_heap w B D D' t' (0, 0) hb) (chg_row w B D'))

/-- A struct is stored into a block of the call's own, inside a region. -/
theorem wp_stS {o : Oper} {a : Act} {K : Act → World → Prop} {Q : Exit → Act → World → Prop} {w : World} (t : TypeId) (n B off : Nat) (t' : TypeId) (C D D' : Array Value) (x y : Operand) (ho : o.op = .store t x y) (hd : o.dst = none)
    (hx : a.eval x = .pointer (some ⟨B, off, none⟩)) (hy : a.eval y = .agg C) (hs : (sizeOf t).run Tryz.prog w = .ok n w) (hn : C.size = n) (hb : Bx w B t' D) (hf : off + n ≤ D.size) (h1 : ∀ v ∈ C.toList, v.oneCell' = true)
    (hD : (D.toList.take off ++ C.toList ++ D.toList.drop (off + n)).toArray = D')
    (h : ∀ w', Bx w' B t' D' → Chg [B] w w' → K a w') : Oper.wp Tryz.prog o a w K Q := by
  have hrun := run_st t n B off t' C D D' hs hn hb hf h1 hD
  unfold Oper.wp
  simp [execOp, ho, hx, hy, hrun, Result.andThen]
  show K (a.put o.dst undef) _
  rw [hd]
  exact h _ (setRow_heap w B D D' t' (0, 0) hb) (chg_row w B D')

/-- A struct is loaded, as one operation. -/
theorem wpList_ldX {ops : Array Oper} {rest : List Oper} {o : Oper} {a : Act} {Q : Exit → Act → World → Prop} {w : World} (t : TypeId) (n : Nat) (s : Operand) (B off : Nat) (C : Array Value) (hgd : o.guard = none) (ho : o.op = .load t s)
    (hs : a.eval s = .pointer (some ⟨B, off, none⟩)) (hsz : (sizeOf t).run Tryz.prog w = .ok n w) (hag : (isAgg t).run Tryz.prog w = .ok true w) (hn : C.size = n) (hb : ∀ (k : Nat) (v : Value), C[k]? = some v → w.cell? ⟨B, off + k, none⟩ = some v) (h : wpList Tryz.prog ops Q rest (a.put o.dst (.agg C)) w) : wpList Tryz.prog ops Q (o :: rest) a w := by
  have hrun := run_ld (W := w) t n B off C hsz hag hn hb
  refine wpList_plain hgd fun K hK => ?_
  unfold Oper.wp
  simp [execOp, ho, hs, hrun, Result.andThen]
  exact hK _ _ h

end Go.Proofs.YtdgpbdedaafdiaaGreat

namespace Go.Proofs.YtdgpbdedaafdiaaGreat
open Go.RowKit

theorem infoI : (Tryz.prog.info? 3).map (fun i => (i.zero, i.size, i.bytes)) = some (some (.int .i64 0), 1, 8) := by kernel_rfl

theorem infoE : (Tryz.prog.info? 41).map (fun i => (i.zero, i.size, i.bytes)) = some (some (.agg #[.int .i64 0, .int .i64 0, .int .i64 0, .int .i64 0, .string ⟨#[]⟩, .int .i64 0, .int .u32 0, .slice none 0 0]), 8, 88) := by kernel_rfl

theorem ivals_len (zs : List Int) : (ivals zs).length = zs.length := by simp [ivals]

theorem below_grow {w w' : World} (h : w.grownBy w' none) : Below w.heap.size w w' := ⟨h.os, h.tape, h.output, h.size, fun k hk => h.block k hk (by simp)⟩

theorem RdrH.grown {H : Nat} {w w' : World} {R : Nat} {s : Pk.St} {x : Option Nat} (h : RdrH H w R s) (hg : w.grownBy w' x) (hx : ∀ g, x = some g → R ≠ g ∧ H ≠ g) : RdrH H w' R s := by
  cases x with
  | none => exact h.below (below_grow hg)
  | some g => exact h.other (Chg.of_grown hg) (hx g rfl).1 (hx g rfl).2

theorem chg_grown {gs : List Nat} {w0 w w' : World} {x : Option Nat} (h : Chg gs w0 w) (hg : w.grownBy w' x) (hx : ∀ g, x = some g → w0.heap.size ≤ g) : Chg gs w0 w' := by
  cases x with
  | none => exact h.wide (Chg.of_below (gs := []) (below_grow hg)) (by simp)
  | some g => exact h.wide (Chg.of_grown hg) (by intro k hk; have : k = g := by simpa using hk
                                                 subst this; exact .inr (hx k rfl))

/-- append(list, z), z laid in a block of its own. -/
theorem wpList_appI1 {ops : Array Oper} {rest : List Oper} {o : Oper} {a : Act} {Q : Exit → Act → World → Prop} {w : World} (hgd : o.guard = none) (s x : Operand)
    (ho : o.op = .call { callee := .builtin .append, args := #[s, x], argTypes := #[30, 30] })
    (base : Nat) (v : Value) (zs : List Int) (n : Nat) (hn : zs.length = n) (hs : a.eval s = v) (hown : w.ownsRow base 3 1 v n (ivals zs)) (z : Int)
    (B xc : Nat) (hx : a.eval x = .slice (some ⟨B, 0, none⟩) 1 xc) (h0 : w.cell? ⟨B, 0, none⟩ = some (.int .i64 z)) (hb : n ≤ 1000000000) (hbase : base ≤ w.heap.size)
    (h : ∀ g' cap' w', w'.ownsRow base 3 1 (.slice (some ⟨g', 0, none⟩) (n + 1) cap') (n + 1) (ivals (zs ++ [z])) → w.grownBy w' v.ownBlock → wpList Tryz.prog ops Q rest (a.put o.dst (.slice (some ⟨g', 0, none⟩) (n + 1) cap')) w') :
    wpList Tryz.prog ops Q (o :: rest) a w := by
  obtain ⟨i, hi, hz, hsz, hby⟩ := info_parts infoI
  subst hn
  refine wpList_append_lies w hgd s x 30 ho base 3 i _ 1 8 Tryz.underlying30 hi hz hsz hby rfl (by omega) v _ _ hs hown ⟨B, 0, none⟩ 1 xc [.int .i64 z] hx rfl
    (fun j u hj => ?_) (by simp [Value.oneCell']) (by omega) (by unfold maxLen; omega) (by omega) hbase w.heap.size rfl ?_
  · match j, hj with
    | 0, hj => simp at hj; subst hj; exact h0
    | j + 1, hj => simp at hj
  · intro g' cap' w' hown' hg _ _
    refine h g' cap' w' ?_ hg
    have e : ivals (zs ++ [z]) = ivals zs ++ [.int .i64 z] := by simp [ivals]
    rw [e]
    exact hown'

theorem ints_own {w : World} {base n c : Nat} {a : Option Addr} {zs : List Int} (h : w.ownsRow base 3 1 (.slice a n c) n (ivals zs)) (hn : zs.length = n) (hw : ∀ z ∈ zs, I64 z) :
    IntsAt w a c zs ∧ ∀ b off, a = some ⟨b, off, none⟩ → base ≤ b := by
  rcases h.2 with ⟨hv, h0⟩ | ⟨g, cap', cur, hv, hgb, hg, hnc, hcm, _⟩
  · have e0 : zs = [] := List.length_eq_zero_iff.mp (by omega)
    cases hv
    subst e0
    exact ⟨IntsAt.nil (Nat.zero_le _), fun b off e => by cases e⟩
  · cases hv
    refine ⟨⟨by omega, hcm, fun i => ?_, fun i hi => ⟨g, 0, rfl, ?_⟩⟩, fun b off e => by cases e; exact hgb⟩
    · rw [List.getD_eq_getElem?_getD]
      by_cases hi : i < zs.length
      · rw [List.getElem?_eq_getElem hi]; exact hw _ (List.getElem_mem hi)
      · rw [List.getElem?_eq_none (by omega)]; simp
    · rw [Nat.zero_add, World.ownsRow.cellAt h i (by omega), List.getD_eq_getElem?_getD, List.getElem?_eq_getElem hi]
      simp [ivals, hi]

theorem IntsAt.chg {gs : List Nat} {w w' : World} {a : Option Addr} {cap : Nat} {zs : List Int} (h : IntsAt w a cap zs) (hb : Chg gs w w') (hn : ∀ b off, a = some ⟨b, off, none⟩ → b ∉ gs) : IntsAt w' a cap zs :=
  ⟨h.le, h.max, h.wf, fun i hi => by obtain ⟨b, off, e, hc⟩ := h.cell i hi; exact ⟨b, off, e, hb.cell hc (hn b off e)⟩⟩

/-- Numbers read by the Reader at R, in new memory. -/
def RLi (H : Nat) (w : World) (R : Nat) (zs : List Int) (s : Pk.St) (e : Ending) (w' : World) : Prop :=
  ∃ a c, e = .returned (.slice a zs.length c) ∧ (∀ gs w2, Chg gs w' w2 → (∀ g ∈ gs, g < w.heap.size) → IntsAt w2 a c zs) ∧ RdrH H w' R s ∧ Chg [R] w w'

theorem rdN_wf (n : Nat) (s : Pk.St) : ∀ z ∈ (rdS rdN n s).1, I64 z := (rdS_all (P := I64) rdN (fun _ => True) (fun s _ => ⟨vN_i64 s, trivial⟩) s trivial n).1

set_option maxRecDepth 100000 in
set_option maxHeartbeats 1000000 in
theorem readInts_any {H : Nat} (R : Nat) (m : Int) (s : Pk.St) (w : World) (h : RdrH H w R s) (hm0 : 0 ≤ m) (hm : m ≤ 1000000) :
    Calls Tryz.prog 73 #[.pointer (some ⟨R, 0, none⟩), .int .i64 m, .func (.func 72) #[] #[]] w (RLi H w R (rdS rdN (Pk.vC s m).toNat (Pk.nC s m)).1 (rdS rdN (Pk.vC s m).toNat (Pk.nC s m)).2) := by
  have hc := vC_range s m hm0
  have hRl := h.lt
  have hHl := h.home
  have HH := Lib.hid h
  clear h
  go_enter Tryz.func73, Tryz.ntmps73
  go_wp2_with fail
  refine (rCountH R m s _ HH.out).mono ?_
  rintro e w1 ⟨rfl, hr1, hb1⟩
  generalize Pk.vC s m = z at *
  generalize Pk.nC s m = s1 at *
  obtain ⟨n, rfl⟩ : ∃ n : Nat, z = (n : Int) := ⟨z.toNat, by omega⟩
  rw [Int.toNat_natCast]
  have HR1 := Lib.hid hr1
  have HB1 := Lib.hid hb1
  clear hr1 hb1
  go_wp2
  go_loopw [7, 11] (fun v i ws => ∃ (k c : Nat) (a : Option Addr), k ≤ n ∧ i = .int .i64 k ∧ v = .slice a k c ∧ Hid (ws.ownsRow w.heap.size 3 1 (.slice a k c) k (ivals (rdS rdN k s1).1)) ∧ Hid (RdrH H ws R (rdS rdN k s1).2) ∧ Hid (Chg [R] w ws)) (fun _ i _ => n - (intOf i).toNat)
  case atStart => exact ⟨0, 0, none, Nat.zero_le _, rfl, rfl, World.ownsRow_nil _ _ _ _, HR1, HB1⟩
  case round =>
    obtain ⟨k, c, a, hk, rfl, rfl, HO, HR, HC⟩ := hrel
    by_cases hlt : k < n
    · have HL := Lib.hid (rdS_len rdN s1 k)
      have HN1 : Hid ((rdS rdN (k + 1) s1).1 = (rdS rdN k s1).1 ++ [Pk.vN (rdS rdN k s1).2]) := rfl
      have HN2 : Hid ((rdS rdN (k + 1) s1).2 = Pk.nN (rdS rdN k s1).2) := rfl
      generalize (rdS rdN k s1).1 = zs at *
      generalize (rdS rdN k s1).2 = sk at *
      go_wp2_with fail
      refine (rNumH R sk _ HR.out).mono ?_
      rintro e w2 ⟨rfl, hr2, hb2⟩
      have hoR : ∀ g, Value.ownBlock (.slice a k c) = some g → R ≠ g ∧ H ≠ g ∧ w.heap.size ≤ g := fun g hg => by
        have := (World.ownsRow.lt HO.out g hg).1
        omega
      have HO2 : Hid ((w2.alloc (.cells #[.int .i64 (Pk.vN sk)] 3)).ownsRow w.heap.size 3 1 (.slice a k c) k (ivals zs)) :=
        (Chg.of_below (gs := []) (below_one w2 _)).owns (hb2.owns HO.out (fun g hg => by have := hoR g hg; simp; omega)) (by simp)
      have HR2 := Lib.hid (hr2.below (below_one w2 (.cells #[.int .i64 (Pk.vN sk)] 3)))
      have HC2 := Lib.hid ((HC.out.trans hb2).alloc (.cells #[.int .i64 (Pk.vN sk)] 3))
      have HOR := Lib.hid hoR
      have hz2 := HC2.out.size
      clear hr2 hb2 hoR
      generalize Pk.vN sk = z at *
      generalize Pk.nN sk = sk1 at *
      have hx0 : (w2.alloc (.cells #[.int .i64 z] 3)).cell? ⟨w2.heap.size, 0, none⟩ = some (.int .i64 z) := by simp
      go_wp2_with (at_builtin; refine wpList_appI1 rfl (.tmp 13) (.tmp 17) rfl w.heap.size _ zs k HL.out rfl HO2.out z _ 1 rfl hx0 (by omega) hz2 ?_; intro g3 c3 w3 ho3 hg3)
      have HO3 : Hid (w3.ownsRow w.heap.size 3 1 (.slice (some ⟨g3, 0, none⟩) (k + 1) c3) (k + 1) (ivals (rdS rdN (k + 1) s1).1)) := by
        show World.ownsRow _ _ _ _ _ _ _
        rw [HN1.out]
        exact ho3
      have HR3 : Hid (RdrH H w3 R (rdS rdN (k + 1) s1).2) := by
        show RdrH _ _ _ _
        rw [HN2.out]
        exact HR2.out.grown hg3 (fun g hg => by have := HOR.out g hg; omega)
      have HC3 := Lib.hid (chg_grown HC2.out hg3 (fun g hg => (HOR.out g hg).2.2))
      clear ho3 hg3
      go_roundw
      case rel => exact ⟨k + 1, c3, some ⟨g3, 0, none⟩, by omega, by go_num, rfl, HO3, HR3, HC3⟩
      case measure => simp [intOf]; omega
    · obtain rfl : k = n := by omega
      have HF : Hid (RLi H w R (rdS rdN k s1).1 (rdS rdN k s1).2 (.returned (.slice a k c)) wr) := by
        obtain ⟨h1, h2⟩ := ints_own HO.out (rdS_len rdN s1 k) (rdN_wf k s1)
        refine ⟨a, c, by rw [rdS_len], fun gs w2 hb hg => h1.chg hb (fun b off e hm => ?_), HR.out, HC.out⟩
        have := h2 b off e
        have := hg b hm
        omega
      go_wp2
      go_ret
      exact HF.out

/-- An entry as it lies in memory. -/
structure El where
  p : Pe
  loc : Option Addr
  cap : Nat

def el0 : El := ⟨pe0, none, 0⟩

def ecells (x : El) : List Value := [.int .i64 x.p.seq, .int .i64 x.p.client, .int .i64 x.p.num, .int .i64 x.p.op, .string (strB x.p.key), .int .i64 x.p.size, .int .u32 (x.p.sum : Int), .slice x.loc x.p.frag.length x.cap]

def evals : List El → List Value
  | [] => []
  | x :: xs => ecells x ++ evals xs

theorem evals_app (xs ys : List El) : evals (xs ++ ys) = evals xs ++ evals ys := by
  induction xs with
  | nil => rfl
  | cons x xs ih => simp [evals, ih]

theorem evals_at : ∀ (xs : List El) (i k : Nat), i < xs.length → k < 8 → (evals xs)[i * 8 + k]? = (ecells (xs.getD i el0))[k]?
  | [], i, k, h, _ => by simp at h
  | x :: xs, 0, k, _, hk => by
    show (ecells x ++ evals xs)[0 * 8 + k]? = _
    rw [List.getElem?_append_left (by simp [ecells]; omega)]
    simp
  | x :: xs, i + 1, k, h, hk => by
    have := evals_at xs i k (by simpa using h) hk
    show (ecells x ++ evals xs)[(i + 1) * 8 + k]? = _
    rw [List.getElem?_append_right (by simp [ecells]; omega), show (i + 1) * 8 + k - (ecells x).length = i * 8 + k by simp [ecells]; omega, this]
    simp

/-- A slice of entries of the call's own (or nil), their bytes in other blocks that are new too. -/
structure Els (w : World) (base : Nat) (v : Value) (xs : List El) : Prop where
  own : w.ownsRow base 41 8 v xs.length (evals xs)
  seen : ∀ x ∈ xs, SeenAt w x.loc x.cap x.p.frag
  off : ∀ x ∈ xs, ∀ b o, x.loc = some ⟨b, o, none⟩ → base ≤ b ∧ b < w.heap.size ∧ ∀ g, v.ownBlock = some g → b ≠ g
  wf : ∀ x ∈ xs, x.p.Wf

theorem els_nil (w : World) (base : Nat) : Els w base (.slice none 0 0) [] := ⟨World.ownsRow_nil _ _ _ _, by simp, by simp, by simp⟩

theorem Els.chg {w w' : World} {base : Nat} {v : Value} {xs : List El} {gs : List Nat} (h : Els w base v xs) (hb : Chg gs w w') (hg : ∀ g ∈ gs, g < base) : Els w' base v xs := by
  refine ⟨hb.owns h.own (fun g e hm => ?_), fun x hx => (h.seen x hx).chg hb (fun b o e hm => ?_), fun x hx b o e => ?_, h.wf⟩
  · have := (World.ownsRow.lt h.own g e).1
    have := hg g hm
    omega
  · have := (h.off x hx b o e).1
    have := hg b hm
    omega
  · obtain ⟨h1, h2, h3⟩ := h.off x hx b o e
    exact ⟨h1, Nat.lt_of_lt_of_le h2 hb.size, h3⟩

theorem Els.push {w w' : World} {base g' c' : Nat} {v : Value} {xs : List El} {x : El} (h : Els w base v xs) (hg : w.grownBy w' v.ownBlock) (ho : w'.ownsRow base 41 8 (.slice (some ⟨g', 0, none⟩) (xs.length + 1) c') (xs.length + 1) (evals (xs ++ [x])))
    (hat : v.ownBlock = some g' ∨ w.heap.size ≤ g') (hs : SeenAt w x.loc x.cap x.p.frag) (hf : ∀ b o, x.loc = some ⟨b, o, none⟩ → base ≤ b ∧ b < w.heap.size ∧ ∀ g, v.ownBlock = some g → b ≠ g) (hw : x.p.Wf) :
    Els w' base (.slice (some ⟨g', 0, none⟩) (xs.length + 1) c') (xs ++ [x]) := by
  have each : ∀ y : El, SeenAt w y.loc y.cap y.p.frag → (∀ b o, y.loc = some ⟨b, o, none⟩ → base ≤ b ∧ b < w.heap.size ∧ ∀ g, v.ownBlock = some g → b ≠ g) →
      SeenAt w' y.loc y.cap y.p.frag ∧ ∀ b o, y.loc = some ⟨b, o, none⟩ → base ≤ b ∧ b < w'.heap.size ∧ ∀ g, Value.ownBlock (.slice (some ⟨g', 0, none⟩) (xs.length + 1) c') = some g → b ≠ g := by
    intro y hy hyf
    refine ⟨?_, fun b o e => ?_⟩
    · cases hv : v.ownBlock with
      | none => rw [hv] at hg; exact hy.below (below_grow hg)
      | some g =>
        rw [hv] at hg
        refine hy.chg (Chg.of_grown hg) (fun b o e hm => ?_)
        have : b = g := by simpa using hm
        exact (hyf b o e).2.2 g hv this
    · obtain ⟨h1, h2, h3⟩ := hyf b o e
      refine ⟨h1, Nat.lt_of_lt_of_le h2 hg.size, fun g e' => ?_⟩
      have : g' = g := by simpa [Value.ownBlock] using e'
      subst this
      rcases hat with hat | hat
      · exact h3 g' hat
      · omega
  refine ⟨by rw [List.length_append]; exact ho, fun y hy => ?_, fun y hy => ?_, fun y hy => ?_⟩
  · rcases List.mem_append.mp hy with hy | hy
    · exact (each y (h.seen y hy) (h.off y hy)).1
    · rw [List.mem_singleton.mp hy]; exact (each x hs hf).1
  · rcases List.mem_append.mp hy with hy | hy
    · exact (each y (h.seen y hy) (h.off y hy)).2
    · rw [List.mem_singleton.mp hy]; exact (each x hs hf).2
  · rcases List.mem_append.mp hy with hy | hy
    · exact h.wf y hy
    · rw [List.mem_singleton.mp hy]; exact hw

theorem Els.at_ {w : World} {base n c : Nat} {a : Option Addr} {xs : List El} (h : Els w base (.slice a n c) xs) : xs.length = n ∧ EnsAt w a c (xs.map (·.p)) := by
  have hx := h.own
  rcases hx.2 with ⟨hv, h0⟩ | ⟨g, cap', cur, hv, _, hg, hnc, hcm, _⟩
  · have e0 : xs = [] := List.length_eq_zero_iff.mp h0
    subst e0
    cases hv
    exact ⟨rfl, EnsAt.nil (Nat.zero_le _)⟩
  · cases hv
    refine ⟨rfl, ⟨by simpa using hnc, hcm, fun i hi => ?_, fun e he => ?_⟩⟩
    · have hi' : i < xs.length := by simpa using hi
      have e : (xs.map (·.p)).getD i pe0 = (xs.getD i el0).p := by
        rw [List.getD_eq_getElem?_getD, List.getD_eq_getElem?_getD, List.getElem?_map, List.getElem?_eq_getElem hi']; rfl
      rw [e]
      have hc : ∀ k, k < 8 → w.cell? ⟨g, 0 + i * 8 + k, none⟩ = (ecells (xs.getD i el0))[k]? := fun k hk => by
        rw [Nat.zero_add, World.ownsRow.cellAt h.own (i * 8 + k) (by omega), evals_at xs i k hi' hk]
      exact ⟨g, 0, (xs.getD i el0).loc, (xs.getD i el0).cap, rfl, hc 0 (by omega), hc 1 (by omega), hc 2 (by omega), hc 3 (by omega), hc 4 (by omega), hc 5 (by omega), hc 6 (by omega), hc 7 (by omega), h.seen _ (getD_mem xs i el0 hi')⟩
    · obtain ⟨x, hx', rfl⟩ := List.mem_map.mp he
      exact h.wf x hx'

/-- A row of entries, it and their bytes in blocks from lo up to hi. -/
def RowE (w : World) (lo hi : Nat) (a : Option Addr) (c : Nat) (es : List Pe) : Prop :=
  ∃ xs : List El, xs.map (·.p) = es ∧ Els w lo (.slice a xs.length c) xs ∧ (∀ x ∈ xs, ∀ b o, x.loc = some ⟨b, o, none⟩ → b < hi) ∧ ∀ g, Value.ownBlock (.slice a xs.length c) = some g → g < hi

theorem RowE.ens {w : World} {lo hi : Nat} {a : Option Addr} {c : Nat} {es : List Pe} (h : RowE w lo hi a c es) : EnsAt w a c es := by
  obtain ⟨xs, rfl, hE, _⟩ := h
  exact hE.at_.2

theorem RowE.chg {w w' : World} {lo hi : Nat} {a : Option Addr} {c : Nat} {es : List Pe} {gs : List Nat} (h : RowE w lo hi a c es) (hb : Chg gs w w') (hg : ∀ g ∈ gs, g < lo ∨ hi ≤ g) : RowE w' lo hi a c es := by
  obtain ⟨xs, rfl, hE, hf, ho⟩ := h
  refine ⟨xs, rfl, ⟨hb.owns hE.own (fun g e hm => ?_), fun x hx => (hE.seen x hx).chg hb (fun b o e hm => ?_), fun x hx b o e => ?_, hE.wf⟩, hf, ho⟩
  · have h1 := (World.ownsRow.lt hE.own g e).1
    have h2 := ho g e
    have := hg g hm
    omega
  · have h1 := (hE.off x hx b o e).1
    have h2 := hf x hx b o e
    have := hg b hm
    omega
  · obtain ⟨h1, h2, h3⟩ := hE.off x hx b o e
    exact ⟨h1, Nat.lt_of_lt_of_le h2 hb.size, h3⟩

theorem RowE.wide {w : World} {lo hi hi' : Nat} {a : Option Addr} {c : Nat} {es : List Pe} (h : RowE w lo hi a c es) (hh : hi ≤ hi') : RowE w lo hi' a c es := by
  obtain ⟨xs, e, hE, hf, ho⟩ := h
  exact ⟨xs, e, hE, fun x hx b o e => Nat.lt_of_lt_of_le (hf x hx b o e) hh, fun g e => Nat.lt_of_lt_of_le (ho g e) hh⟩

/-- append(list, e), e laid in a block of its own. -/
theorem wpList_appE {ops : Array Oper} {rest : List Oper} {o : Oper} {a : Act} {Q : Exit → Act → World → Prop} {w : World} (hgd : o.guard = none) (s x : Operand)
    (ho : o.op = .call { callee := .builtin .append, args := #[s, x], argTypes := #[33, 33] })
    (base : Nat) (v : Value) (xs : List El) (n : Nat) (hn : xs.length = n) (hs : a.eval s = v) (hown : Els w base v xs) (y : El)
    (B xc : Nat) (hx : a.eval x = .slice (some ⟨B, 0, none⟩) 1 xc) (hc : ∀ k u, (ecells y)[k]? = some u → w.cell? ⟨B, k, none⟩ = some u) (hb : n ≤ 1000000) (hbase : base ≤ w.heap.size)
    (hsy : SeenAt w y.loc y.cap y.p.frag) (hfy : ∀ b o, y.loc = some ⟨b, o, none⟩ → base ≤ b ∧ b < w.heap.size ∧ ∀ g, v.ownBlock = some g → b ≠ g) (hwy : y.p.Wf)
    (h : ∀ g' cap' w', Els w' base (.slice (some ⟨g', 0, none⟩) (n + 1) cap') (xs ++ [y]) → w.grownBy w' v.ownBlock → wpList Tryz.prog ops Q rest (a.put o.dst (.slice (some ⟨g', 0, none⟩) (n + 1) cap')) w') :
    wpList Tryz.prog ops Q (o :: rest) a w := by
  obtain ⟨i, hi, hz, hsz, hby⟩ := info_parts infoE
  subst hn
  refine wpList_append_lies w hgd s x 33 ho base 41 i _ 8 88 Tryz.underlying33 hi hz hsz hby rfl (by omega) v _ _ hs hown.own ⟨B, 0, none⟩ 1 xc (ecells y) hx rfl
    (fun j u hj => ?_) (by simp [ecells, Value.oneCell']) (by omega) (by unfold maxLen; omega) (by omega) hbase w.heap.size rfl ?_
  · have := hc j u hj
    rw [Go.WideShapes.add_plain, Nat.zero_add]
    exact this
  · intro g' cap' w' hown' hg hat hlt
    refine h g' cap' w' (hown.push hg ?_ ?_ hsy hfy hwy) hg
    · rw [evals_app]
      show World.ownsRow _ _ _ _ _ _ (evals xs ++ (ecells y ++ []))
      rw [List.append_nil]
      exact hown'
    · rcases hat with hat | hat
      · exact .inl hat
      · exact .inr (by omega)

/-- Entries read by the Reader at R, in new memory. -/
def RLe (H : Nat) (w : World) (R : Nat) (es : List Pe) (s : Pk.St) (e : Ending) (w' : World) : Prop :=
  ∃ a c, e = .returned (.slice a es.length c) ∧ (∀ gs w2, Chg gs w' w2 → (∀ g ∈ gs, g < w.heap.size) → EnsAt w2 a c es) ∧ RdrH H w' R s ∧ Chg [R] w w'

/-- The same, as a row of the call's own. -/
def RLeO (H : Nat) (w : World) (R : Nat) (es : List Pe) (s : Pk.St) (e : Ending) (w' : World) : Prop :=
  ∃ a c, e = .returned (.slice a es.length c) ∧ RowE w' w.heap.size w'.heap.size a c es ∧ RdrH H w' R s ∧ Chg [R] w w'

theorem RLeO.weak {H : Nat} {w w' : World} {R : Nat} {es : List Pe} {s : Pk.St} {e : Ending} (h : RLeO H w R es s e w') : RLe H w R es s e w' := by
  obtain ⟨a, c, h1, h2, h3, h4⟩ := h
  exact ⟨a, c, h1, fun gs w2 hb hg => (h2.chg hb fun g hm => .inl (hg g hm)).ens, h3, h4⟩

end Go.Proofs.YtdgpbdedaafdiaaGreat

namespace Go.Proofs.YtdgpbdedaafdiaaGreat
open Go.RowKit

set_option maxRecDepth 100000 in
set_option maxHeartbeats 1000000 in
theorem readEnts_own {H : Nat} (R : Nat) (m : Int) (s : Pk.St) (w : World) (h : RdrH H w R s) (hB : Gf.Bytes s.1) (hl : s.1.length ≤ 100000000) (hm0 : 0 ≤ m) (hm : m ≤ 1000000) :
    Calls Tryz.prog 74 #[.pointer (some ⟨R, 0, none⟩), .int .i64 m, .func (.func 75) #[] #[]] w (RLeO H w R (rdS rdE (Pk.vC s m).toNat (Pk.nC s m)).1 (rdS rdE (Pk.vC s m).toNat (Pk.nC s m)).2) := by
  have hc := vC_range s m hm0
  have hk := nC_keep s m hB
  have hRl := h.lt
  have hHl := h.home
  have HH := Lib.hid h
  clear h hB
  go_enter Tryz.func74, Tryz.ntmps74
  go_wp2_with fail
  refine (rCountH R m s _ HH.out).mono ?_
  rintro e w1 ⟨rfl, hr1, hb1⟩
  generalize Pk.vC s m = z at *
  generalize Pk.nC s m = s1 at *
  obtain ⟨n, rfl⟩ : ∃ n : Nat, z = (n : Int) := ⟨z.toNat, by omega⟩
  rw [Int.toNat_natCast]
  have HR1 := Lib.hid hr1
  have HB1 := Lib.hid hb1
  have HKB := Lib.hid hk.1
  have hkl := hk.2
  clear hr1 hb1 hk
  go_wp2
  go_loopw [7, 11] (fun v i ws => ∃ (k c : Nat) (a : Option Addr) (xs : List El), k ≤ n ∧ i = .int .i64 k ∧ v = .slice a k c ∧ Hid (xs.map (·.p) = (rdS rdE k s1).1) ∧ Hid (Els ws w.heap.size (.slice a k c) xs) ∧ Hid (RdrH H ws R (rdS rdE k s1).2) ∧ Hid (Chg [R] w ws)) (fun _ i _ => n - (intOf i).toNat)
  case atStart => exact ⟨0, 0, none, [], Nat.zero_le _, rfl, rfl, rfl, els_nil _ _, HR1, HB1⟩
  case round =>
    obtain ⟨k, c, a, xs, hk, rfl, rfl, HM, HO, HR, HC⟩ := hrel
    by_cases hlt : k < n
    · have HL : Hid (xs.length = k) := HO.out.at_.1
      have HN1 : Hid ((rdS rdE (k + 1) s1).1 = (rdS rdE k s1).1 ++ [(rdE (rdS rdE k s1).2).1]) := by show _ = _; rw [rdS_succ]
      have HN2 : Hid ((rdS rdE (k + 1) s1).2 = (rdE (rdS rdE k s1).2).2) := by show _ = _; rw [rdS_succ]
      have hkk := rdS_keep rdE_can s1 HKB.out k
      generalize (rdS rdE k s1).1 = es at *
      generalize (rdS rdE k s1).2 = sk at *
      have HWF := Lib.hid (rdE_wf sk hkk.1).1
      go_wp2_with fail
      refine (readEntry_any R sk _ HR.out (by omega)).mono ?_
      rintro e w2 ⟨loc, cp, rfl, hs2, hf2, hr2, hb2⟩
      generalize (rdE sk).1 = p at *
      generalize (rdE sk).2 = sk1 at *
      have hoR : ∀ g, Value.ownBlock (.slice a k c) = some g → R ≠ g ∧ H ≠ g ∧ w.heap.size ≤ g ∧ g < wr.heap.size := fun g hg => by
        have := World.ownsRow.lt HO.out.own g hg
        omega
      have hb3 := below_one w2 (.cells #[.int .i64 p.seq, .int .i64 p.client, .int .i64 p.num, .int .i64 p.op, .string (strB p.key), .int .i64 p.size, .int .u32 (p.sum : Int), .slice loc p.frag.length cp] 41)
      have HO2 := Lib.hid ((HO.out.chg hb2 (by simpa using hRl)).chg (gs := []) (Chg.of_below hb3) (by simp))
      have HR2 := Lib.hid (hr2.below hb3)
      have HC2 := Lib.hid ((HC.out.trans hb2).wide (Chg.of_below (gs := []) hb3) (by simp))
      have HS2 := Lib.hid (hs2.below hb3)
      have HF2 : Hid (∀ b o, loc = some ⟨b, o, none⟩ → w.heap.size ≤ b ∧ b < (w2.alloc (.cells #[.int .i64 p.seq, .int .i64 p.client, .int .i64 p.num, .int .i64 p.op, .string (strB p.key), .int .i64 p.size, .int .u32 (p.sum : Int), .slice loc p.frag.length cp] 41)).heap.size ∧ ∀ g, Value.ownBlock (.slice a k c) = some g → b ≠ g) := fun b o e => by
        have h0 := HC.out.size
        have h1 := hb3.size
        rcases hf2 with e' | ⟨b', o', e', h2, h3⟩
        · rw [e'] at e; cases e
        · rw [e'] at e
          cases e
          exact ⟨by omega, by omega, fun g hg => by have := (hoR g hg).2.2.2; omega⟩
      have HX : Hid (∀ j u, (ecells ⟨p, loc, cp⟩)[j]? = some u → (w2.alloc (.cells #[.int .i64 p.seq, .int .i64 p.client, .int .i64 p.num, .int .i64 p.op, .string (strB p.key), .int .i64 p.size, .int .u32 (p.sum : Int), .slice loc p.frag.length cp] 41)).cell? ⟨w2.heap.size, j, none⟩ = some u) := fun j u hj => by
        rw [World.cell?_alloc_mark, ← Array.getElem?_toList]
        exact hj
      have HOR := Lib.hid hoR
      have hz2 := HC2.out.size
      clear hs2 hf2 hr2 hb2 hoR hb3
      go_wp2_with (at_builtin; refine wpList_appE rfl (.tmp 13) (.tmp 17) rfl w.heap.size _ xs k HL.out rfl HO2.out ⟨p, loc, cp⟩ _ 1 rfl HX.out (by omega) hz2 HS2.out HF2.out HWF.out ?_; intro g3 c3 w3 ho3 hg3)
      have HO3 := Lib.hid ho3
      have HM3 : Hid ((xs ++ [(⟨p, loc, cp⟩ : El)]).map (·.p) = (rdS rdE (k + 1) s1).1) := by
        show _ = _
        rw [HN1.out, List.map_append, HM.out]
        rfl
      have HR3 : Hid (RdrH H w3 R (rdS rdE (k + 1) s1).2) := by
        show RdrH _ _ _ _
        rw [HN2.out]
        exact HR2.out.grown hg3 (fun g hg => by have := HOR.out g hg; omega)
      have HC3 := Lib.hid (chg_grown HC2.out hg3 (fun g hg => (HOR.out g hg).2.2.1))
      clear ho3 hg3
      go_roundw
      case rel => exact ⟨k + 1, c3, some ⟨g3, 0, none⟩, _, by omega, by go_num, rfl, HM3, HO3, HR3, HC3⟩
      case measure => simp [intOf]; omega
    · obtain rfl : k = n := by omega
      have HF : Hid (RLeO H w R (rdS rdE k s1).1 (rdS rdE k s1).2 (.returned (.slice a k c)) wr) := by
        refine ⟨a, c, by rw [rdS_len], ⟨xs, HM.out, ?_, fun x hx b o e => (HO.out.off x hx b o e).2.1, ?_⟩, HR.out, HC.out⟩
        · rw [HO.out.at_.1]; exact HO.out
        · rw [HO.out.at_.1]; exact fun g e => (World.ownsRow.lt HO.out.own g e).2
      go_wp2
      go_ret
      exact HF.out

theorem readEnts_any {H : Nat} (R : Nat) (m : Int) (s : Pk.St) (w : World) (h : RdrH H w R s) (hB : Gf.Bytes s.1) (hl : s.1.length ≤ 100000000) (hm0 : 0 ≤ m) (hm : m ≤ 1000000) :
    Calls Tryz.prog 74 #[.pointer (some ⟨R, 0, none⟩), .int .i64 m, .func (.func 75) #[] #[]] w (RLe H w R (rdS rdE (Pk.vC s m).toNat (Pk.nC s m)).1 (rdS rdE (Pk.vC s m).toNat (Pk.nC s m)).2) :=
  (readEnts_own R m s w h hB hl hm0 hm).mono fun _ _ h => h.weak

/-- The blocks of gs alone have turned since. -/
theorem RdI.fin6 {H : Nat} {w0 w : World} {R : Nat} {s : Pk.St} {t : TypeId} {y0 y1 y2 y3 y4 y5 : Value} {C : Array Value} (h : RdI H w0 w R s t #[y0, y1, y2, y3, y4, y5] C) (v0 v1 v2 v3 v4 v5 : Value)
    (n0 : notU8 v0 = true) (n1 : notU8 v1 = true) (n2 : notU8 v2 = true) (n3 : notU8 v3 = true) (n4 : notU8 v4 = true) (n5 : notU8 v5 = true) :
    RdI H w0 ((((((w.setCell ⟨w0.heap.size, 0, none⟩ v0).setCell ⟨w0.heap.size, 1, none⟩ v1).setCell ⟨w0.heap.size, 2, none⟩ v2).setCell ⟨w0.heap.size, 3, none⟩ v3).setCell ⟨w0.heap.size, 4, none⟩ v4).setCell ⟨w0.heap.size, 5, none⟩ v5) R s t #[v0, v1, v2, v3, v4, v5] C ∧ Chg [w0.heap.size] w ((((((w.setCell ⟨w0.heap.size, 0, none⟩ v0).setCell ⟨w0.heap.size, 1, none⟩ v1).setCell ⟨w0.heap.size, 2, none⟩ v2).setCell ⟨w0.heap.size, 3, none⟩ v3).setCell ⟨w0.heap.size, 4, none⟩ v4).setCell ⟨w0.heap.size, 5, none⟩ v5) := by
  have hs := SeenAt.nil (w := w) (a := none) (cap := 0) (Nat.zero_le _)
  obtain ⟨h0, s0⟩ := h.zset 0 v0 #[v0, y1, y2, y3, y4, y5] (by simp) n0 hs
  obtain ⟨h1, s1⟩ := h0.zset 1 v1 #[v0, v1, y2, y3, y4, y5] (by simp) n1 s0
  obtain ⟨h2, s2⟩ := h1.zset 2 v2 #[v0, v1, v2, y3, y4, y5] (by simp) n2 s1
  obtain ⟨h3, s3⟩ := h2.zset 3 v3 #[v0, v1, v2, v3, y4, y5] (by simp) n3 s2
  obtain ⟨h4, s4⟩ := h3.zset 4 v4 #[v0, v1, v2, v3, v4, y5] (by simp) n4 s3
  obtain ⟨h5, s5⟩ := h4.zset 5 v5 #[v0, v1, v2, v3, v4, v5] (by simp) n5 s4
  exact ⟨h5, (((((chg_set w _ 0 v0).trans (chg_set _ _ 1 v1)).trans (chg_set _ _ 2 v2)).trans (chg_set _ _ 3 v3)).trans (chg_set _ _ 4 v4)).trans (chg_set _ _ 5 v5)⟩

/-- A record whose members and entries lie in blocks from lo up to hi, the entries as a row of the call's own. -/
structure RecO (w : World) (lo hi : Nat) (ma : Option Addr) (mc : Nat) (ea : Option Addr) (ec : Nat) (r : Pr) : Prop where
  parts : ∃ mid, lo ≤ mid ∧ mid ≤ hi ∧ (∀ gs w2, Chg gs w w2 → (∀ g ∈ gs, g < lo ∨ mid ≤ g) → IntsAt w2 ma mc r.mem) ∧ RowE w mid hi ea ec r.ents
  wf : r.Wf

theorem RecO.at_ {w : World} {lo hi : Nat} {ma : Option Addr} {mc : Nat} {ea : Option Addr} {ec : Nat} {r : Pr} (h : RecO w lo hi ma mc ea ec r) : RecAt w ma mc ea ec r := by
  obtain ⟨⟨mid, _, _, h1, h2⟩, hw⟩ := h
  exact ⟨h1 [] w (Chg.refl _ _) (by simp), h2.ens, hw⟩

theorem RecO.chg {w w' : World} {lo hi : Nat} {ma : Option Addr} {mc : Nat} {ea : Option Addr} {ec : Nat} {r : Pr} {gs : List Nat} (h : RecO w lo hi ma mc ea ec r) (hb : Chg gs w w') (hg : ∀ g ∈ gs, g < lo ∨ hi ≤ g) : RecO w' lo hi ma mc ea ec r := by
  obtain ⟨⟨mid, h1, h2, h3, h4⟩, hw⟩ := h
  refine ⟨⟨mid, h1, h2, fun hs w2 hc hh => h3 (gs ++ hs) w2 ((hb.mono fun g hm => List.mem_append_left _ hm).trans (hc.mono fun g hm => List.mem_append_right _ hm)) fun g hm => ?_, h4.chg hb fun g hm => ?_⟩, hw⟩
  · rcases List.mem_append.mp hm with hm | hm
    · have := hg g hm; omega
    · exact hh g hm
  · have := hg g hm; omega

theorem RecO.wide {w : World} {lo hi lo' hi' : Nat} {ma : Option Addr} {mc : Nat} {ea : Option Addr} {ec : Nat} {r : Pr} (h : RecO w lo hi ma mc ea ec r) (hl : lo' ≤ lo) (hh : hi ≤ hi') : RecO w lo' hi' ma mc ea ec r := by
  obtain ⟨⟨mid, h1, h2, h3, h4⟩, hw⟩ := h
  exact ⟨⟨mid, Nat.le_trans hl h1, Nat.le_trans h2 hh, fun gs w2 hb hg => h3 gs w2 hb fun g hm => by have := hg g hm; omega, h4.wide hh⟩, hw⟩

/-- A record read by the Reader at R, in new memory. -/
def RRec (H : Nat) (w : World) (R : Nat) (r : Pr) (s : Pk.St) (e : Ending) (w' : World) : Prop :=
  ∃ ma mc ea ec, e = .returned (.agg #[.int .i64 r.kind, .int .i64 r.epoch, .slice ma r.mem.length mc, .int .i64 r.pos, .int .i64 r.last, .slice ea r.ents.length ec]) ∧
    RecO w' w.heap.size w'.heap.size ma mc ea ec r ∧ RdrH H w' R s ∧ Chg [R] w w'

set_option maxRecDepth 100000 in
set_option maxHeartbeats 1000000 in
theorem readRecord_any {H : Nat} (R : Nat) (s : Pk.St) (w : World) (h : RdrH H w R s) (hB : Gf.Bytes s.1) (hl : s.1.length ≤ 100000000) :
    Calls Tryz.prog 56 #[.pointer (some ⟨R, 0, none⟩)] w (RRec H w R (rdR s).1 (rdR s).2) := by
  have HI0 := Lib.hid (rdI_new w R s 35 #[.int .i64 0, .int .i64 0, .slice none 0 0, .int .i64 0, .int .i64 0, .slice none 0 0] h rfl)
  have HE : Hid (rdR s = (⟨Pk.vN s, Pk.vN (Pk.nN s), (rdM (Pk.nN (Pk.nN (Pk.nN (Pk.nN s))))).1, Pk.vN (Pk.nN (Pk.nN s)), Pk.vN (Pk.nN (Pk.nN (Pk.nN s))), (rdEs (rdM (Pk.nN (Pk.nN (Pk.nN (Pk.nN s))))).2).1⟩, (rdEs (rdM (Pk.nN (Pk.nN (Pk.nN (Pk.nN s))))).2).2)) := rfl
  have HWF := Lib.hid (rdR_wf s hB).1
  clear h
  generalize rdR s = ans at *
  go_enter Tryz.func56, Tryz.ntmps56
  go_wp2_with fail
  generalize (w.alloc (.cells #[.int .i64 0, .int .i64 0, .slice none 0 0, .int .i64 0, .int .i64 0, .slice none 0 0] 35)).alloc (.cells #[.int .i64 0, .int .i64 0, .slice none 0 0, .int .i64 0, .int .i64 0, .slice none 0 0] 35) = w0 at *
  refine (rNumH R s _ HI0.out.rdr).mono ?_
  rintro e w1 ⟨rfl, hr1, hb1⟩
  have HJ := Lib.hid (HI0.out.read hr1 hb1)
  have k0 := HJ.out.cell 0 (.int .i64 0) rfl
  have f0 := HJ.out.free 0
  obtain ⟨B1, L1⟩ := nN_keep s hB
  clear hr1 hb1 HI0
  generalize Pk.vN s = z1 at *
  generalize Pk.nN s = s1 at *
  go_wp2_with fail
  have HI1 : Hid (RdI H w (w1.setCell ⟨w.heap.size + 1, 0, none⟩ (.int .i64 z1)) R s1 35 #[.int .i64 0, .int .i64 0, .slice none 0 0, .int .i64 0, .int .i64 0, .slice none 0 0] #[.int .i64 z1, .int .i64 0, .slice none 0 0, .int .i64 0, .int .i64 0, .slice none 0 0]) := HJ.out.store 0 (.int .i64 z1) rfl
  generalize w1.setCell ⟨w.heap.size + 1, 0, none⟩ (.int .i64 z1) = x1 at *
  clear k0 f0 HJ
  refine (rNumH R s1 _ HI1.out.rdr).mono ?_
  rintro e w1 ⟨rfl, hr1, hb1⟩
  have HJ := Lib.hid (HI1.out.read hr1 hb1)
  have k0 := HJ.out.cell 1 (.int .i64 0) rfl
  have f0 := HJ.out.free 1
  obtain ⟨B2, L2⟩ := nN_keep s1 B1
  clear hr1 hb1 HI1
  generalize Pk.vN s1 = z2 at *
  generalize Pk.nN s1 = s2 at *
  go_wp2_with fail
  have HI2 : Hid (RdI H w (w1.setCell ⟨w.heap.size + 1, 1, none⟩ (.int .i64 z2)) R s2 35 #[.int .i64 0, .int .i64 0, .slice none 0 0, .int .i64 0, .int .i64 0, .slice none 0 0] #[.int .i64 z1, .int .i64 z2, .slice none 0 0, .int .i64 0, .int .i64 0, .slice none 0 0]) := HJ.out.store 1 (.int .i64 z2) rfl
  generalize w1.setCell ⟨w.heap.size + 1, 1, none⟩ (.int .i64 z2) = x2 at *
  clear k0 f0 HJ
  refine (rNumH R s2 _ HI2.out.rdr).mono ?_
  rintro e w1 ⟨rfl, hr1, hb1⟩
  have HJ := Lib.hid (HI2.out.read hr1 hb1)
  have k0 := HJ.out.cell 3 (.int .i64 0) rfl
  have f0 := HJ.out.free 3
  obtain ⟨B3, L3⟩ := nN_keep s2 B2
  clear hr1 hb1 HI2
  generalize Pk.vN s2 = z3 at *
  generalize Pk.nN s2 = s3 at *
  go_wp2_with fail
  have HI3 : Hid (RdI H w (w1.setCell ⟨w.heap.size + 1, 3, none⟩ (.int .i64 z3)) R s3 35 #[.int .i64 0, .int .i64 0, .slice none 0 0, .int .i64 0, .int .i64 0, .slice none 0 0] #[.int .i64 z1, .int .i64 z2, .slice none 0 0, .int .i64 z3, .int .i64 0, .slice none 0 0]) := HJ.out.store 3 (.int .i64 z3) rfl
  generalize w1.setCell ⟨w.heap.size + 1, 3, none⟩ (.int .i64 z3) = x3 at *
  clear k0 f0 HJ
  refine (rNumH R s3 _ HI3.out.rdr).mono ?_
  rintro e w1 ⟨rfl, hr1, hb1⟩
  have HJ := Lib.hid (HI3.out.read hr1 hb1)
  have k0 := HJ.out.cell 4 (.int .i64 0) rfl
  have f0 := HJ.out.free 4
  obtain ⟨B4, L4⟩ := nN_keep s3 B3
  clear hr1 hb1 HI3
  generalize Pk.vN s3 = z4 at *
  generalize Pk.nN s3 = s4 at *
  go_wp2_with fail
  have HI4 : Hid (RdI H w (w1.setCell ⟨w.heap.size + 1, 4, none⟩ (.int .i64 z4)) R s4 35 #[.int .i64 0, .int .i64 0, .slice none 0 0, .int .i64 0, .int .i64 0, .slice none 0 0] #[.int .i64 z1, .int .i64 z2, .slice none 0 0, .int .i64 z3, .int .i64 z4, .slice none 0 0]) := HJ.out.store 4 (.int .i64 z4) rfl
  generalize w1.setCell ⟨w.heap.size + 1, 4, none⟩ (.int .i64 z4) = x4 at *
  clear k0 f0 HJ
  have HM : Hid (rdM s4 = rdS rdN (Pk.vC s4 16).toNat (Pk.nC s4 16)) := rfl
  refine (readInts_any R 16 s4 _ HI4.out.rdr (by omega) (by omega)).mono ?_
  rw [← HM.out]
  rintro e w5 ⟨a5, c5, rfl, hk5, hr1, hb1⟩
  have HJ := Lib.hid (HI4.out.read hr1 hb1)
  have HK5 := Lib.hid hk5
  have HS45 : Hid (x4.heap.size ≤ w5.heap.size) := hb1.size
  have k0 := HJ.out.cell 2 (.slice none 0 0) rfl
  have f0 := HJ.out.free 2
  have hz4 := HI4.out.z.lt
  have hc4 := HI4.out.c.lt
  have hr4 := HI4.out.rdr.lt
  obtain ⟨B5, L5⟩ := rdM_keep s4 B4
  clear hr1 hb1 HI4 hk5 HM
  generalize (rdM s4).1 = M at *
  generalize (rdM s4).2 = s5 at *
  go_wp2_with fail
  have HI5 : Hid (RdI H w (w5.setCell ⟨w.heap.size + 1, 2, none⟩ (.slice a5 M.length c5)) R s5 35 #[.int .i64 0, .int .i64 0, .slice none 0 0, .int .i64 0, .int .i64 0, .slice none 0 0] #[.int .i64 z1, .int .i64 z2, .slice a5 M.length c5, .int .i64 z3, .int .i64 z4, .slice none 0 0]) := HJ.out.store 2 (.slice a5 M.length c5) rfl
  have HC5 : Hid (Chg [R, w.heap.size, w.heap.size + 1] w5 (w5.setCell ⟨w.heap.size + 1, 2, none⟩ (.slice a5 M.length c5))) := (chg_set w5 (w.heap.size + 1) 2 _).mono (by simp)
  have HZ5 : Hid (w5.heap.size = (w5.setCell ⟨w.heap.size + 1, 2, none⟩ (.slice a5 M.length c5)).heap.size) := by show _ = _; simp
  generalize w5.setCell ⟨w.heap.size + 1, 2, none⟩ (.slice a5 M.length c5) = x5 at *
  clear k0 f0 HJ
  have HM : Hid (rdEs s5 = rdS rdE (Pk.vC s5 4096).toNat (Pk.nC s5 4096)) := rfl
  refine (readEnts_own R 4096 s5 _ HI5.out.rdr B5 (by omega) (by omega) (by omega)).mono ?_
  rw [← HM.out]
  rintro e w6 ⟨a6, c6, rfl, hk6, hr1, hb1⟩
  have HJ := Lib.hid (HI5.out.read hr1 hb1)
  have HK6 := Lib.hid hk6
  have HS56 : Hid (x5.heap.size ≤ w6.heap.size) := hb1.size
  have HC6 := Lib.hid (HC5.out.trans (hb1.mono (hs := [R, w.heap.size, w.heap.size + 1]) (by simp)))
  have f0 := HJ.out.free 5
  have hz5 := HI5.out.z.lt
  have hc5 := HI5.out.c.lt
  have k0 := HJ.out.cell 0 (.int .i64 z1) rfl
  have k1 := HJ.out.cell 1 (.int .i64 z2) rfl
  have k2 := HJ.out.cell 2 (.slice a5 M.length c5) rfl
  have k3 := HJ.out.cell 3 (.int .i64 z3) rfl
  have k4 := HJ.out.cell 4 (.int .i64 z4) rfl
  have k5 := HJ.out.cell 5 (.slice none 0 0) rfl
  have y0 := HJ.out.z.cell 0 (.int .i64 0) rfl
  have y1 := HJ.out.z.cell 1 (.int .i64 0) rfl
  have y2 := HJ.out.z.cell 2 (.slice none 0 0) rfl
  have y3 := HJ.out.z.cell 3 (.int .i64 0) rfl
  have y4 := HJ.out.z.cell 4 (.int .i64 0) rfl
  have y5 := HJ.out.z.cell 5 (.slice none 0 0) rfl
  have g0 := HJ.out.z.free 0
  have g1 := HJ.out.z.free 1
  have g2 := HJ.out.z.free 2
  have g3 := HJ.out.z.free 3
  have g4 := HJ.out.z.free 4
  have g5 := HJ.out.z.free 5
  clear hr1 hb1 HI5 hk6 HM HC5
  generalize (rdEs s5).1 = E at *
  generalize (rdEs s5).2 = s6 at *
  have HF := Lib.hid ((HJ.out.store 5 (.slice a6 E.length c6) rfl).fin6 (.int .i64 z1) (.int .i64 z2) (.slice a5 M.length c5) (.int .i64 z3) (.int .i64 z4) (.slice a6 E.length c6) rfl rfl rfl rfl rfl rfl)
  have HCZ : Hid (Chg [w.heap.size, w.heap.size + 1] w6 (((((((w6.setCell ⟨w.heap.size + 1, 5, none⟩ (.slice a6 E.length c6)).setCell ⟨w.heap.size, 0, none⟩ (.int .i64 z1)).setCell ⟨w.heap.size, 1, none⟩ (.int .i64 z2)).setCell ⟨w.heap.size, 2, none⟩ (.slice a5 M.length c5)).setCell ⟨w.heap.size, 3, none⟩ (.int .i64 z3)).setCell ⟨w.heap.size, 4, none⟩ (.int .i64 z4)).setCell ⟨w.heap.size, 5, none⟩ (.slice a6 E.length c6))) := ((chg_set w6 (w.heap.size + 1) 5 _).mono (by simp)).trans (HF.out.2.mono (by simp))
  clear HJ
  go_wp2_with fail
  generalize (((((((w6.setCell ⟨w.heap.size + 1, 5, none⟩ (.slice a6 E.length c6)).setCell ⟨w.heap.size, 0, none⟩ (.int .i64 z1)).setCell ⟨w.heap.size, 1, none⟩ (.int .i64 z2)).setCell ⟨w.heap.size, 2, none⟩ (.slice a5 M.length c5)).setCell ⟨w.heap.size, 3, none⟩ (.int .i64 z3)).setCell ⟨w.heap.size, 4, none⟩ (.int .i64 z4)).setCell ⟨w.heap.size, 5, none⟩ (.slice a6 E.length c6)) = wf at *
  have q0 := HF.out.1.z.cell 0 (.int .i64 z1) rfl
  have q1 := HF.out.1.z.cell 1 (.int .i64 z2) rfl
  have q2 := HF.out.1.z.cell 2 (.slice a5 M.length c5) rfl
  have q3 := HF.out.1.z.cell 3 (.int .i64 z3) rfl
  have q4 := HF.out.1.z.cell 4 (.int .i64 z4) rfl
  have q5 := HF.out.1.z.cell 5 (.slice a6 E.length c6) rfl
  refine bodyPost_ret (v := .agg #[.int .i64 z1, .int .i64 z2, .slice a5 M.length c5, .int .i64 z3, .int .i64 z4, .slice a6 E.length c6]) (by simp [results, Tryz.results56, go_sem, q0, q1, q2, q3, q4, q5]) rfl ?_
  rw [HE.out] at HWF ⊢
  have h45 : x4.heap.size ≤ w5.heap.size := HS45.out
  refine ⟨a5, c5, a6, c6, rfl, ⟨⟨x5.heap.size, ?_, ?_, fun gs w2 hb hg => ?_, (HK6.out.chg HCZ.out (fun g hm => by simp at hm; omega)).wide HCZ.out.size⟩, HWF.out⟩, HF.out.1.rdr, HF.out.1.chg⟩
  · omega
  · exact Nat.le_trans HS56.out HCZ.out.size
  · have hc := ((HC6.out.trans (HCZ.out.mono (hs := [R, w.heap.size, w.heap.size + 1]) (by simp))).mono (hs := [R, w.heap.size, w.heap.size + 1] ++ gs) (fun g hm => List.mem_append_left _ hm)).trans (hb.mono (hs := [R, w.heap.size, w.heap.size + 1] ++ gs) (fun g hm => List.mem_append_right _ hm))
    refine HK5.out (([R, w.heap.size, w.heap.size + 1] ++ gs).filter (· < w5.heap.size)) w2 ⟨hc.os, hc.tape, hc.output, hc.size, fun k hk hn => hc.block k hk fun hm => hn ?_⟩ fun g hm => ?_
    · rw [List.mem_filter]
      exact ⟨hm, by simpa using hk⟩
    · rw [List.mem_filter] at hm
      obtain ⟨hm, hlt⟩ := hm
      have hlt : g < w5.heap.size := by simpa using hlt
      have hz5 := HZ5.out
      rcases List.mem_append.mp hm with hm | hm
      · simp at hm; omega
      · have := hg g hm; omega

end Go.Proofs.YtdgpbdedaafdiaaGreat
