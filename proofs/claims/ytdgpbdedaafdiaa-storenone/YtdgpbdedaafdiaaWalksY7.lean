/-
  What the program reads: readEntry, readList, readRecord.
-/
import Derived.Test.YtdgpbdedaafdiaaWalksY3
namespace Go.Proofs.Ytdgpbdedaafdiaa
open Go.RowKit

/-- No cell of block g is a byte. -/
def NoU8 (w : World) (g : Nat) : Prop := ∀ (i : Nat) (z : Int), w.cell? ⟨g, i, none⟩ ≠ some (.int .u8 z)

theorem SeenAt.other {w w' : World} {g cap : Nat} {a : Option Addr} {ps : List Nat} (h : SeenAt w a cap ps) (hb : Chg [g] w w') (hno : NoU8 w g) : SeenAt w' a cap ps :=
  ⟨h.le, h.max, h.byte, fun i hi => by
    obtain ⟨b, off, e, hc⟩ := h.cell i hi
    refine ⟨b, off, e, hb.cell hc ?_⟩
    intro hm
    have hg : b = g := by simpa using hm
    subst hg
    exact hno _ _ hc⟩

/-- Another block has turned. -/
theorem RdrH.other {H : Nat} {w w' : World} {R g : Nat} {s : Pk.St} (h : RdrH H w R s) (hb : Chg [g] w w') (hne : R ≠ g) (hH : H ≠ g) : RdrH H w' R s := by
  obtain ⟨a, cap, hc, hs, hn⟩ := h.rest
  refine ⟨⟨a, cap, hb.cell hc (by simpa using hne), ?_, hn⟩, hb.cell h.flag (by simpa using hne), fun k => ?_, Nat.lt_of_lt_of_le h.home hb.size⟩
  · refine hs.chg hb fun b off e => ?_
    rcases hn with e' | ⟨b', off', e', _, h'⟩
    · rw [e'] at e; cases e
    · rw [e'] at e; cases e; subst h'; simpa using hH
  · have := hb.block R h.lt (by simpa using hne)
    rw [← h.free k]
    simp [World.frozen?, this]

theorem Chg.wide {gs hs : List Nat} {a b c : World} (h : Chg gs a b) (k : Chg hs b c) (hh : ∀ g ∈ hs, g ∈ gs ∨ a.heap.size ≤ g) : Chg gs a c :=
  ⟨k.os.trans h.os, k.tape.trans h.tape, k.output.trans h.output, Nat.le_trans h.size k.size, fun i hi hn => by
    rw [k.block i (Nat.lt_of_lt_of_le hi h.size) (fun hm => by
      rcases hh i hm with h1 | h1
      · exact hn h1
      · omega), h.block i hi hn]⟩

def notU8 : Value → Bool
  | .int .u8 _ => false
  | _ => true

/-- Block B holds just these cells, of type t. -/
def Bx (w : World) (B : Nat) (t : TypeId) (C : Array Value) : Prop := w.heap[B]? = some (.cells C t (0, 0))

theorem Bx.cellq {w : World} {B : Nat} {t : TypeId} {C : Array Value} (h : Bx w B t C) (k : Nat) : w.cell? ⟨B, k, none⟩ = C[k]? := by
  unfold Bx at h
  unfold World.cell?
  rw [h]
  simp

theorem Bx.cell {w : World} {B : Nat} {t : TypeId} {C : Array Value} (h : Bx w B t C) (k : Nat) (v : Value) (hv : C[k]? = some v) : w.cell? ⟨B, k, none⟩ = some v := (h.cellq k).trans hv

theorem Bx.free {w : World} {B : Nat} {t : TypeId} {C : Array Value} (h : Bx w B t C) (k : Nat) : w.frozen? ⟨B, k, none⟩ = false := by
  unfold Bx at h
  unfold World.frozen?
  rw [h]
  simp

theorem Bx.no {w : World} {B : Nat} {t : TypeId} {C : Array Value} (h : Bx w B t C) (hC : C.toList.all notU8 = true) : NoU8 w B := by
  intro i z hc
  rw [h.cellq i, ← Array.getElem?_toList] at hc
  have := List.all_eq_true.mp hC _ (List.mem_of_getElem? hc)
  exact absurd this (by simp [notU8])

theorem Bx.lt {w : World} {B : Nat} {t : TypeId} {C : Array Value} (h : Bx w B t C) : B < w.heap.size := (Array.getElem?_eq_some_iff.1 h).1

theorem Bx.chg {gs : List Nat} {w w' : World} {B : Nat} {t : TypeId} {C : Array Value} (h : Bx w B t C) (hb : Chg gs w w') (hn : B ∉ gs) : Bx w' B t C := (hb.block B h.lt hn).trans h

/-- What readEntry and readRecord keep: the Reader, the result's variable, their own variable. -/
structure RdI (H : Nat) (w0 w : World) (R : Nat) (s : Pk.St) (t : TypeId) (Z C : Array Value) : Prop where
  rdr : RdrH H w R s
  z : Bx w w0.heap.size t Z
  c : Bx w (w0.heap.size + 1) t C
  chg : Chg [R] w0 w
  lt : R < w0.heap.size
  home : H < w0.heap.size
  no : C.toList.all notU8 = true
  noz : Z.toList.all notU8 = true

theorem all_set (C : Array Value) (k : Nat) (v : Value) (hC : C.toList.all notU8 = true) (hv : notU8 v = true) : (C.setIfInBounds k v).toList.all notU8 = true := by
  rw [Array.toList_setIfInBounds, List.all_eq_true]
  intro x hx
  rcases List.mem_or_eq_of_mem_set hx with hx | rfl
  · exact List.all_eq_true.mp hC x hx
  · exact hv

theorem RdI.read {H : Nat} {w0 w w' : World} {R : Nat} {s s' : Pk.St} {t : TypeId} {Z C : Array Value} (h : RdI H w0 w R s t Z C) (hr : RdrH H w' R s') (hb : Chg [R] w w') : RdI H w0 w' R s' t Z C :=
  ⟨hr, h.z.chg hb (by have := h.lt; simp; omega), h.c.chg hb (by have := h.lt; simp; omega), h.chg.trans hb, h.lt, h.home, h.no, h.noz⟩

theorem RdI.store {H : Nat} {w0 w : World} {R : Nat} {s : Pk.St} {t : TypeId} {Z C : Array Value} (h : RdI H w0 w R s t Z C) (k : Nat) (v : Value) (hv : notU8 v = true) :
    RdI H w0 (w.setCell ⟨w0.heap.size + 1, k, none⟩ v) R s t Z (C.setIfInBounds k v) := by
  have hc := chg_set w (w0.heap.size + 1) k v
  have hl := h.lt
  have hh := h.home
  exact ⟨h.rdr.other hc (by omega) (by omega), h.z.chg hc (by simp), heap_setCell_same w _ k C t v h.c, h.chg.wide hc (by simp), hl, hh, all_set C k v h.no hv, h.noz⟩

theorem RdI.zset {H : Nat} {w0 w : World} {R : Nat} {s : Pk.St} {t : TypeId} {Z C : Array Value} (h : RdI H w0 w R s t Z C) (k : Nat) (v : Value) (Z' : Array Value) (hZ : Z.setIfInBounds k v = Z') (hv : notU8 v = true) {a : Option Addr} {c : Nat} {ps : List Nat} (hs : SeenAt w a c ps) :
    RdI H w0 (w.setCell ⟨w0.heap.size, k, none⟩ v) R s t Z' C ∧ SeenAt (w.setCell ⟨w0.heap.size, k, none⟩ v) a c ps := by
  subst hZ
  have hc := chg_set w w0.heap.size k v
  have hl := h.lt
  have hh := h.home
  exact ⟨⟨h.rdr.other hc (by omega) (by omega), heap_setCell_same w _ k Z t v h.z, h.c.chg hc (by simp), h.chg.wide hc (by simp), hl, hh, h.no, all_set Z k v h.noz hv⟩, hs.other hc (h.z.no h.noz)⟩

theorem RdI.keep {H : Nat} {w0 w : World} {R : Nat} {s : Pk.St} {t : TypeId} {Z C : Array Value} (h : RdI H w0 w R s t Z C) (k : Nat) (v : Value) {a : Option Addr} {c : Nat} {ps : List Nat} (hs : SeenAt w a c ps) : SeenAt (w.setCell ⟨w0.heap.size + 1, k, none⟩ v) a c ps :=
  hs.other (chg_set w (w0.heap.size + 1) k v) (h.c.no h.no)

theorem RdI.fin8 {H : Nat} {w0 w : World} {R : Nat} {s : Pk.St} {t : TypeId} {y0 y1 y2 y3 y4 y5 y6 y7 : Value} {C : Array Value} (h : RdI H w0 w R s t #[y0, y1, y2, y3, y4, y5, y6, y7] C) (v0 v1 v2 v3 v4 v5 v6 v7 : Value)
    (n0 : notU8 v0 = true) (n1 : notU8 v1 = true) (n2 : notU8 v2 = true) (n3 : notU8 v3 = true) (n4 : notU8 v4 = true) (n5 : notU8 v5 = true) (n6 : notU8 v6 = true) (n7 : notU8 v7 = true) {a : Option Addr} {c : Nat} {ps : List Nat} (hs : SeenAt w a c ps) :
    RdI H w0 ((((((((w.setCell ⟨w0.heap.size, 0, none⟩ v0).setCell ⟨w0.heap.size, 1, none⟩ v1).setCell ⟨w0.heap.size, 2, none⟩ v2).setCell ⟨w0.heap.size, 3, none⟩ v3).setCell ⟨w0.heap.size, 4, none⟩ v4).setCell ⟨w0.heap.size, 5, none⟩ v5).setCell ⟨w0.heap.size, 6, none⟩ v6).setCell ⟨w0.heap.size, 7, none⟩ v7) R s t #[v0, v1, v2, v3, v4, v5, v6, v7] C ∧
    SeenAt ((((((((w.setCell ⟨w0.heap.size, 0, none⟩ v0).setCell ⟨w0.heap.size, 1, none⟩ v1).setCell ⟨w0.heap.size, 2, none⟩ v2).setCell ⟨w0.heap.size, 3, none⟩ v3).setCell ⟨w0.heap.size, 4, none⟩ v4).setCell ⟨w0.heap.size, 5, none⟩ v5).setCell ⟨w0.heap.size, 6, none⟩ v6).setCell ⟨w0.heap.size, 7, none⟩ v7) a c ps := by
  obtain ⟨h0, s0⟩ := h.zset 0 v0 #[v0, y1, y2, y3, y4, y5, y6, y7] (by simp) n0 hs
  obtain ⟨h1, s1⟩ := h0.zset 1 v1 #[v0, v1, y2, y3, y4, y5, y6, y7] (by simp) n1 s0
  obtain ⟨h2, s2⟩ := h1.zset 2 v2 #[v0, v1, v2, y3, y4, y5, y6, y7] (by simp) n2 s1
  obtain ⟨h3, s3⟩ := h2.zset 3 v3 #[v0, v1, v2, v3, y4, y5, y6, y7] (by simp) n3 s2
  obtain ⟨h4, s4⟩ := h3.zset 4 v4 #[v0, v1, v2, v3, v4, y5, y6, y7] (by simp) n4 s3
  obtain ⟨h5, s5⟩ := h4.zset 5 v5 #[v0, v1, v2, v3, v4, v5, y6, y7] (by simp) n5 s4
  obtain ⟨h6, s6⟩ := h5.zset 6 v6 #[v0, v1, v2, v3, v4, v5, v6, y7] (by simp) n6 s5
  exact h6.zset 7 v7 #[v0, v1, v2, v3, v4, v5, v6, v7] (by simp) n7 s6

theorem RdI.cell {H : Nat} {w0 w : World} {R : Nat} {s : Pk.St} {t : TypeId} {Z C : Array Value} (h : RdI H w0 w R s t Z C) (k : Nat) (v : Value) (hv : C[k]? = some v) : w.cell? ⟨w0.heap.size + 1, k, none⟩ = some v := h.c.cell k v hv
theorem RdI.free {H : Nat} {w0 w : World} {R : Nat} {s : Pk.St} {t : TypeId} {Z C : Array Value} (h : RdI H w0 w R s t Z C) (k : Nat) : w.frozen? ⟨w0.heap.size + 1, k, none⟩ = false := h.c.free k

theorem rdI_new {H : Nat} (w : World) (R : Nat) (s : Pk.St) (t : TypeId) (Z : Array Value) (h : RdrH H w R s) (hz : Z.toList.all notU8 = true) : RdI H w ((w.alloc (.cells Z t)).alloc (.cells Z t)) R s t Z Z := by
  have hb : Below w.heap.size w ((w.alloc (.cells Z t)).alloc (.cells Z t)) := (below_one w _).alloc (by simp) _
  refine ⟨h.below hb, ?_, ?_, Chg.of_below hb, h.lt, h.home, hz, hz⟩
  · show ((w.heap.push _).push _)[w.heap.size]? = _
    simp [Array.getElem?_push]
  · show ((w.heap.push _).push _)[w.heap.size + 1]? = _
    rw [Array.getElem?_push, if_pos (by simp)]

/-- An entry read by the Reader at R. -/
def REn (H : Nat) (w : World) (R : Nat) (p : Pe) (s : Pk.St) (e : Ending) (w' : World) : Prop :=
  ∃ loc cap, e = .returned (.agg #[.int .i64 p.seq, .int .i64 p.client, .int .i64 p.num, .int .i64 p.op, .string (strB p.key), .int .i64 p.size, .int .u32 (p.sum : Int), .slice loc p.frag.length cap]) ∧ SeenAt w' loc cap p.frag ∧ Fresh w w' loc ∧ RdrH H w' R s ∧ Chg [R] w w'

set_option maxRecDepth 100000 in
set_option maxHeartbeats 1000000 in
theorem readEntry_any {H : Nat} (R : Nat) (s : Pk.St) (w : World) (h : RdrH H w R s) (hl : s.1.length ≤ 100000000) :
    Calls Try.prog 67 #[.pointer (some ⟨R, 0, none⟩)] w (REn H w R (rdE s).1 (rdE s).2) := by
  have HI0 := Lib.hid (rdI_new w R s 32 #[.int .i64 0, .int .i64 0, .int .i64 0, .int .i64 0, .string ⟨#[]⟩, .int .i64 0, .int .u32 0, .slice none 0 0] h rfl)
  have HE : Hid (rdE s = (⟨Pk.vN s, Pk.vN (Pk.nN s), Pk.vN (Pk.nN (Pk.nN s)), Pk.vN (Pk.nN (Pk.nN (Pk.nN s))), Pk.vT (Pk.nC (Pk.nN (Pk.nN (Pk.nN (Pk.nN (Pk.nN s))))) 4294967295), Pk.vN (Pk.nN (Pk.nN (Pk.nN (Pk.nN s)))), (Pk.vC (Pk.nN (Pk.nN (Pk.nN (Pk.nN (Pk.nN s))))) 4294967295).toNat, Pk.vT (Pk.nT (Pk.nC (Pk.nN (Pk.nN (Pk.nN (Pk.nN (Pk.nN s))))) 4294967295))⟩, Pk.nT (Pk.nT (Pk.nC (Pk.nN (Pk.nN (Pk.nN (Pk.nN (Pk.nN s))))) 4294967295)))) := rfl
  clear h
  generalize rdE s = ans at *
  go_enter Try.func67, Try.ntmps67
  go_wp2_with fail
  generalize (w.alloc (.cells #[.int .i64 0, .int .i64 0, .int .i64 0, .int .i64 0, .string ⟨#[]⟩, .int .i64 0, .int .u32 0, .slice none 0 0] 32)).alloc (.cells #[.int .i64 0, .int .i64 0, .int .i64 0, .int .i64 0, .string ⟨#[]⟩, .int .i64 0, .int .u32 0, .slice none 0 0] 32) = w0 at *
  refine (rNumH R s _ HI0.out.rdr).mono ?_
  rintro e w1 ⟨rfl, hr1, hb1⟩
  have HJ := Lib.hid (HI0.out.read hr1 hb1)
  have k0 := HJ.out.cell 0 (.int .i64 0) rfl
  have f0 := HJ.out.free 0
  have L1 := Pk.nN_len s
  clear hr1 hb1 HI0
  generalize Pk.vN s = z1 at *
  generalize Pk.nN s = s1 at *
  go_wp2_with fail
  have HI1 : Hid (RdI H w (w1.setCell ⟨w.heap.size + 1, 0, none⟩ (.int .i64 z1)) R s1 32 #[.int .i64 0, .int .i64 0, .int .i64 0, .int .i64 0, .string ⟨#[]⟩, .int .i64 0, .int .u32 0, .slice none 0 0] #[.int .i64 z1, .int .i64 0, .int .i64 0, .int .i64 0, .string ⟨#[]⟩, .int .i64 0, .int .u32 0, .slice none 0 0]) := HJ.out.store 0 (.int .i64 z1) rfl
  generalize w1.setCell ⟨w.heap.size + 1, 0, none⟩ (.int .i64 z1) = x1 at *
  clear k0 f0 HJ
  refine (rNumH R s1 _ HI1.out.rdr).mono ?_
  rintro e w1 ⟨rfl, hr1, hb1⟩
  have HJ := Lib.hid (HI1.out.read hr1 hb1)
  have k0 := HJ.out.cell 1 (.int .i64 0) rfl
  have f0 := HJ.out.free 1
  have L2 := Pk.nN_len s1
  clear hr1 hb1 HI1
  generalize Pk.vN s1 = z2 at *
  generalize Pk.nN s1 = s2 at *
  go_wp2_with fail
  have HI2 : Hid (RdI H w (w1.setCell ⟨w.heap.size + 1, 1, none⟩ (.int .i64 z2)) R s2 32 #[.int .i64 0, .int .i64 0, .int .i64 0, .int .i64 0, .string ⟨#[]⟩, .int .i64 0, .int .u32 0, .slice none 0 0] #[.int .i64 z1, .int .i64 z2, .int .i64 0, .int .i64 0, .string ⟨#[]⟩, .int .i64 0, .int .u32 0, .slice none 0 0]) := HJ.out.store 1 (.int .i64 z2) rfl
  generalize w1.setCell ⟨w.heap.size + 1, 1, none⟩ (.int .i64 z2) = x2 at *
  clear k0 f0 HJ
  refine (rNumH R s2 _ HI2.out.rdr).mono ?_
  rintro e w1 ⟨rfl, hr1, hb1⟩
  have HJ := Lib.hid (HI2.out.read hr1 hb1)
  have k0 := HJ.out.cell 2 (.int .i64 0) rfl
  have f0 := HJ.out.free 2
  have L3 := Pk.nN_len s2
  clear hr1 hb1 HI2
  generalize Pk.vN s2 = z3 at *
  generalize Pk.nN s2 = s3 at *
  go_wp2_with fail
  have HI3 : Hid (RdI H w (w1.setCell ⟨w.heap.size + 1, 2, none⟩ (.int .i64 z3)) R s3 32 #[.int .i64 0, .int .i64 0, .int .i64 0, .int .i64 0, .string ⟨#[]⟩, .int .i64 0, .int .u32 0, .slice none 0 0] #[.int .i64 z1, .int .i64 z2, .int .i64 z3, .int .i64 0, .string ⟨#[]⟩, .int .i64 0, .int .u32 0, .slice none 0 0]) := HJ.out.store 2 (.int .i64 z3) rfl
  generalize w1.setCell ⟨w.heap.size + 1, 2, none⟩ (.int .i64 z3) = x3 at *
  clear k0 f0 HJ
  refine (rNumH R s3 _ HI3.out.rdr).mono ?_
  rintro e w1 ⟨rfl, hr1, hb1⟩
  have HJ := Lib.hid (HI3.out.read hr1 hb1)
  have k0 := HJ.out.cell 3 (.int .i64 0) rfl
  have f0 := HJ.out.free 3
  have L4 := Pk.nN_len s3
  clear hr1 hb1 HI3
  generalize Pk.vN s3 = z4 at *
  generalize Pk.nN s3 = s4 at *
  go_wp2_with fail
  have HI4 : Hid (RdI H w (w1.setCell ⟨w.heap.size + 1, 3, none⟩ (.int .i64 z4)) R s4 32 #[.int .i64 0, .int .i64 0, .int .i64 0, .int .i64 0, .string ⟨#[]⟩, .int .i64 0, .int .u32 0, .slice none 0 0] #[.int .i64 z1, .int .i64 z2, .int .i64 z3, .int .i64 z4, .string ⟨#[]⟩, .int .i64 0, .int .u32 0, .slice none 0 0]) := HJ.out.store 3 (.int .i64 z4) rfl
  generalize w1.setCell ⟨w.heap.size + 1, 3, none⟩ (.int .i64 z4) = x4 at *
  clear k0 f0 HJ
  refine (rNumH R s4 _ HI4.out.rdr).mono ?_
  rintro e w1 ⟨rfl, hr1, hb1⟩
  have HJ := Lib.hid (HI4.out.read hr1 hb1)
  have k0 := HJ.out.cell 5 (.int .i64 0) rfl
  have f0 := HJ.out.free 5
  have L5 := Pk.nN_len s4
  clear hr1 hb1 HI4
  generalize Pk.vN s4 = z5 at *
  generalize Pk.nN s4 = s5 at *
  go_wp2_with fail
  have HI5 : Hid (RdI H w (w1.setCell ⟨w.heap.size + 1, 5, none⟩ (.int .i64 z5)) R s5 32 #[.int .i64 0, .int .i64 0, .int .i64 0, .int .i64 0, .string ⟨#[]⟩, .int .i64 0, .int .u32 0, .slice none 0 0] #[.int .i64 z1, .int .i64 z2, .int .i64 z3, .int .i64 z4, .string ⟨#[]⟩, .int .i64 z5, .int .u32 0, .slice none 0 0]) := HJ.out.store 5 (.int .i64 z5) rfl
  generalize w1.setCell ⟨w.heap.size + 1, 5, none⟩ (.int .i64 z5) = x5 at *
  clear k0 f0 HJ
  have hc6 := vC_range s5 4294967295 (by omega)
  refine (rCountH R 4294967295 s5 _ HI5.out.rdr).mono ?_
  rintro e w1 ⟨rfl, hr1, hb1⟩
  have HJ := Lib.hid (HI5.out.read hr1 hb1)
  have k0 := HJ.out.cell 6 (.int .u32 0) rfl
  have f0 := HJ.out.free 6
  have L6 : (Pk.nC s5 4294967295).1.length ≤ s5.1.length := by
    by_cases hb : Pk.badC s5 4294967295 = true
    · rw [Pk.nC_bad s5 _ hb]; simp
    · rw [Pk.nC_good s5 _ (by simpa using hb)]; exact Pk.nN_len s5
  clear hr1 hb1 HI5
  generalize Pk.vC s5 4294967295 = z6 at *
  generalize Pk.nC s5 4294967295 = s6 at *
  obtain ⟨n6, rfl⟩ : ∃ n : Nat, z6 = (n : Int) := ⟨z6.toNat, by omega⟩
  rw [Int.toNat_natCast] at HE
  have hn6 : n6 < 4294967296 := by omega
  clear hc6
  go_wp2_with fail
  have HI6 : Hid (RdI H w (w1.setCell ⟨w.heap.size + 1, 6, none⟩ (.int .u32 (n6 : Int))) R s6 32 #[.int .i64 0, .int .i64 0, .int .i64 0, .int .i64 0, .string ⟨#[]⟩, .int .i64 0, .int .u32 0, .slice none 0 0] #[.int .i64 z1, .int .i64 z2, .int .i64 z3, .int .i64 z4, .string ⟨#[]⟩, .int .i64 z5, .int .u32 (n6 : Int), .slice none 0 0]) := HJ.out.store 6 (.int .u32 (n6 : Int)) rfl
  generalize w1.setCell ⟨w.heap.size + 1, 6, none⟩ (.int .u32 (n6 : Int)) = x6 at *
  clear k0 f0 HJ
  refine (rTextH R s6 _ HI6.out.rdr (by omega)).mono ?_
  rintro e w1 ⟨a7, c7, rfl, hs7, hr1, hb1, _⟩
  have HJ := Lib.hid (HI6.out.read hr1 hb1)
  have k0 := HJ.out.cell 4 (.string ⟨#[]⟩) rfl
  have f0 := HJ.out.free 4
  have L7 : (Pk.nT s6).1.length ≤ s6.1.length := by
    by_cases hb : Pk.badT s6 = true
    · rw [Pk.nT_bad s6 hb]; simp
    · rw [Pk.nT_good s6 (by simpa using hb)]
      have := Pk.nN_len s6
      show ((Pk.nN s6).1.drop _).length ≤ _
      rw [List.length_drop]
      omega
  have hst := str_of hs7
  clear hr1 hb1 HI6 hs7
  generalize Pk.vT s6 = t7 at *
  generalize Pk.nT s6 = s7 at *
  go_wp2_with fail
  have HI7 : Hid (RdI H w (w1.setCell ⟨w.heap.size + 1, 4, none⟩ (.string (strB t7))) R s7 32 #[.int .i64 0, .int .i64 0, .int .i64 0, .int .i64 0, .string ⟨#[]⟩, .int .i64 0, .int .u32 0, .slice none 0 0] #[.int .i64 z1, .int .i64 z2, .int .i64 z3, .int .i64 z4, .string (strB t7), .int .i64 z5, .int .u32 (n6 : Int), .slice none 0 0]) := HJ.out.store 4 (.string (strB t7)) rfl
  generalize w1.setCell ⟨w.heap.size + 1, 4, none⟩ (.string (strB t7)) = x7 at *
  clear k0 f0 HJ hst
  refine (rTextH R s7 _ HI7.out.rdr (by omega)).mono ?_
  rintro e w1 ⟨a8, c8, rfl, hs8, hr1, hb1, hf8⟩
  have HJ := Lib.hid (HI7.out.read hr1 hb1)
  have HO8 : Hid (Fresh w w1 a8) := Fresh.widen hf8 HI7.out.chg.size (Nat.le_refl _)
  have HS8 := Lib.hid hs8
  have f7 := HJ.out.free 7
  have k0 := HJ.out.cell 0 (.int .i64 z1) rfl
  have k1 := HJ.out.cell 1 (.int .i64 z2) rfl
  have k2 := HJ.out.cell 2 (.int .i64 z3) rfl
  have k3 := HJ.out.cell 3 (.int .i64 z4) rfl
  have k4 := HJ.out.cell 4 (.string (strB t7)) rfl
  have k5 := HJ.out.cell 5 (.int .i64 z5) rfl
  have k6 := HJ.out.cell 6 (.int .u32 (n6 : Int)) rfl
  have k7 := HJ.out.cell 7 (.slice none 0 0) rfl
  have y0 := HJ.out.z.cell 0 (.int .i64 0) rfl
  have y1 := HJ.out.z.cell 1 (.int .i64 0) rfl
  have y2 := HJ.out.z.cell 2 (.int .i64 0) rfl
  have y3 := HJ.out.z.cell 3 (.int .i64 0) rfl
  have y4 := HJ.out.z.cell 4 (.string ⟨#[]⟩) rfl
  have y5 := HJ.out.z.cell 5 (.int .i64 0) rfl
  have y6 := HJ.out.z.cell 6 (.int .u32 0) rfl
  have y7 := HJ.out.z.cell 7 (.slice none 0 0) rfl
  have g0 := HJ.out.z.free 0
  have g1 := HJ.out.z.free 1
  have g2 := HJ.out.z.free 2
  have g3 := HJ.out.z.free 3
  have g4 := HJ.out.z.free 4
  have g5 := HJ.out.z.free 5
  have g6 := HJ.out.z.free 6
  have g7 := HJ.out.z.free 7
  clear hr1 hb1 HI7 hs8 hf8
  generalize Pk.vT s7 = t8 at *
  generalize Pk.nT s7 = s8 at *
  have HF := Lib.hid ((HJ.out.store 7 (.slice a8 t8.length c8) rfl).fin8 (.int .i64 z1) (.int .i64 z2) (.int .i64 z3) (.int .i64 z4) (.string (strB t7)) (.int .i64 z5) (.int .u32 (n6 : Int)) (.slice a8 t8.length c8) rfl rfl rfl rfl rfl rfl rfl rfl (HJ.out.keep 7 (.slice a8 t8.length c8) HS8.out))
  have HSZ : Hid (w1.heap.size ≤ (((((((((w1.setCell ⟨w.heap.size + 1, 7, none⟩ (.slice a8 t8.length c8)).setCell ⟨w.heap.size, 0, none⟩ (.int .i64 z1)).setCell ⟨w.heap.size, 1, none⟩ (.int .i64 z2)).setCell ⟨w.heap.size, 2, none⟩ (.int .i64 z3)).setCell ⟨w.heap.size, 3, none⟩ (.int .i64 z4)).setCell ⟨w.heap.size, 4, none⟩ (.string (strB t7))).setCell ⟨w.heap.size, 5, none⟩ (.int .i64 z5)).setCell ⟨w.heap.size, 6, none⟩ (.int .u32 (n6 : Int))).setCell ⟨w.heap.size, 7, none⟩ (.slice a8 t8.length c8)).heap.size) := by show _ ≤ _; simp
  clear HS8 HJ
  go_wp2_with fail
  generalize (((((((((w1.setCell ⟨w.heap.size + 1, 7, none⟩ (.slice a8 t8.length c8)).setCell ⟨w.heap.size, 0, none⟩ (.int .i64 z1)).setCell ⟨w.heap.size, 1, none⟩ (.int .i64 z2)).setCell ⟨w.heap.size, 2, none⟩ (.int .i64 z3)).setCell ⟨w.heap.size, 3, none⟩ (.int .i64 z4)).setCell ⟨w.heap.size, 4, none⟩ (.string (strB t7))).setCell ⟨w.heap.size, 5, none⟩ (.int .i64 z5)).setCell ⟨w.heap.size, 6, none⟩ (.int .u32 (n6 : Int))).setCell ⟨w.heap.size, 7, none⟩ (.slice a8 t8.length c8)) = wf at *
  have q0 := HF.out.1.z.cell 0 (.int .i64 z1) rfl
  have q1 := HF.out.1.z.cell 1 (.int .i64 z2) rfl
  have q2 := HF.out.1.z.cell 2 (.int .i64 z3) rfl
  have q3 := HF.out.1.z.cell 3 (.int .i64 z4) rfl
  have q4 := HF.out.1.z.cell 4 (.string (strB t7)) rfl
  have q5 := HF.out.1.z.cell 5 (.int .i64 z5) rfl
  have q6 := HF.out.1.z.cell 6 (.int .u32 (n6 : Int)) rfl
  have q7 := HF.out.1.z.cell 7 (.slice a8 t8.length c8) rfl
  refine bodyPost_ret (v := .agg #[.int .i64 z1, .int .i64 z2, .int .i64 z3, .int .i64 z4, .string (strB t7), .int .i64 z5, .int .u32 (n6 : Int), .slice a8 t8.length c8]) (by simp [results, Try.results67, go_sem, q0, q1, q2, q3, q4, q5, q6, q7]) rfl ?_
  rw [HE.out]
  exact ⟨a8, c8, rfl, HF.out.2, HO8.out.widen (Nat.le_refl _) HSZ.out, HF.out.1.rdr, HF.out.1.chg⟩

/-! ## A struct of many cells that is loaded or stored as one operation -/

theorem run_ld {W : World} (t : TypeId) (n B o : Nat) (C : Array Value) (hs : (sizeOf t).run Try.prog W = .ok n W) (ha : (isAgg t).run Try.prog W = .ok true W) (hn : C.size = n)
    (h : ∀ i v, C[i]? = some v → W.cell? ⟨B, o + i, none⟩ = some v) : (Go.Instr.loadAt t (.pointer (some ⟨B, o, none⟩))).run Try.prog W = .ok (.agg C) W := by
  have h1 := run_loadCells_list (P := Try.prog) W ⟨B, o, none⟩ C.toList (fun j v hv => by rw [Go.WideShapes.add_plain]; exact h j v (by rw [← Array.getElem?_toList]; exact hv))
  rw [Array.toArray_toList, Array.length_toList, hn] at h1
  have hq : (if true = true then (do let s ← sizeOf t; let c ← loadCells ⟨B, o, none⟩ s; pure (Value.agg c) : Sem Value) else load ⟨B, o, none⟩).run Try.prog W = .ok (.agg C) W := by
    simp only [if_true, Sem.run_bind, hs, Result.andThen, h1, Sem.run_pure]
  simp only [Go.Instr.loadAt, Go.Instr.sureAddr, loadVar, Sem.run_bind, Sem.run_pure, Result.andThen, ha]
  exact hq

theorem chg_row (w : World) (B : Nat) (D : Array Value) : Chg [B] w (w.setRow B D) :=
  ⟨rfl, rfl, rfl, by simp [World.setRow], fun i hi hn => by
    have : i ≠ B := by simpa using hn
    simp only [World.setRow]
    rw [Array.getElem?_modify]
    simp [Ne.symm this]⟩

theorem run_st {w : World} (t : TypeId) (n B o : Nat) (t' : TypeId) (C D D' : Array Value) (hs : (sizeOf t).run Try.prog w = .ok n w) (hn : C.size = n) (h : Bx w B t' D) (hf : o + n ≤ D.size) (h1 : ∀ v ∈ C.toList, v.oneCell' = true)
    (hD : (D.toList.take o ++ C.toList ++ D.toList.drop (o + n)).toArray = D') : (Go.Instr.storeAt t (.pointer (some ⟨B, o, none⟩)) (.agg C)).run Try.prog w = .ok () (w.setRow B D') := by
  have hst := run_storeCells_at Try.prog B o t' C.toList 0 D w h (by rw [Array.length_toList, hn]; exact hf) h1
  rw [Nat.add_zero, Array.length_toList, hn, hD] at hst
  have hne : ¬ (Value.agg C).cells.size ≠ n := by show ¬ C.size ≠ n; omega
  simp only [Go.Instr.storeAt, Go.Instr.sureAddr, storeVar, Sem.run_bind, Sem.run_pure, Result.andThen, hs, if_neg hne]
  exact hst

/-- A struct is stored into a block of the call's own. -/
theorem wpList_st {ops : Array Oper} {rest : List Oper} {o : Oper} {a : Act} {Q : Exit → Act → World → Prop} {w : World} (t : TypeId) (n B off : Nat) (t' : TypeId) (C D D' : Array Value) (x y : Operand) (hgd : o.guard = none) (ho : o.op = .store t x y) (hd : o.dst = none)
    (hx : a.eval x = .pointer (some ⟨B, off, none⟩)) (hy : a.eval y = .agg C) (hs : (sizeOf t).run Try.prog w = .ok n w) (hn : C.size = n) (hb : Bx w B t' D) (hf : off + n ≤ D.size) (h1 : ∀ v ∈ C.toList, v.oneCell' = true)
    (hD : (D.toList.take off ++ C.toList ++ D.toList.drop (off + n)).toArray = D')
    (h : ∀ w', Bx w' B t' D' → Chg [B] w w' → wpList Try.prog ops Q rest a w') : wpList Try.prog ops Q (o :: rest) a w := by
  have hrun := run_st t n B off t' C D D' hs hn hb hf h1 hD
  refine wpList_plain hgd fun K hK => ?_
  unfold Oper.wp
  simp [execOp, ho, hx, hy, hrun, Result.andThen]
  exact hK _ _ (by rw [hd]; exact h _ (setRow_heap w B D D' t' (0, 0) hb) (chg_row w B D'))

/-- A struct is stored into a block of the call's own, inside a region. -/
theorem wp_stS {o : Oper} {a : Act} {K : Act → World → Prop} {Q : Exit → Act → World → Prop} {w : World} (t : TypeId) (n B off : Nat) (t' : TypeId) (C D D' : Array Value) (x y : Operand) (ho : o.op = .store t x y) (hd : o.dst = none)
    (hx : a.eval x = .pointer (some ⟨B, off, none⟩)) (hy : a.eval y = .agg C) (hs : (sizeOf t).run Try.prog w = .ok n w) (hn : C.size = n) (hb : Bx w B t' D) (hf : off + n ≤ D.size) (h1 : ∀ v ∈ C.toList, v.oneCell' = true)
    (hD : (D.toList.take off ++ C.toList ++ D.toList.drop (off + n)).toArray = D')
    (h : ∀ w', Bx w' B t' D' → Chg [B] w w' → K a w') : Oper.wp Try.prog o a w K Q := by
  have hrun := run_st t n B off t' C D D' hs hn hb hf h1 hD
  unfold Oper.wp
  simp [execOp, ho, hx, hy, hrun, Result.andThen]
  show K (a.put o.dst undef) _
  rw [hd]
  exact h _ (setRow_heap w B D D' t' (0, 0) hb) (chg_row w B D')

/-- A struct is loaded, as one operation. -/
theorem wpList_ldX {ops : Array Oper} {rest : List Oper} {o : Oper} {a : Act} {Q : Exit → Act → World → Prop} {w : World} (t : TypeId) (n : Nat) (s : Operand) (B off : Nat) (C : Array Value) (hgd : o.guard = none) (ho : o.op = .load t s)
    (hs : a.eval s = .pointer (some ⟨B, off, none⟩)) (hsz : (sizeOf t).run Try.prog w = .ok n w) (hag : (isAgg t).run Try.prog w = .ok true w) (hn : C.size = n) (hb : ∀ (k : Nat) (v : Value), C[k]? = some v → w.cell? ⟨B, off + k, none⟩ = some v) (h : wpList Try.prog ops Q rest (a.put o.dst (.agg C)) w) : wpList Try.prog ops Q (o :: rest) a w := by
  have hrun := run_ld (W := w) t n B off C hsz hag hn hb
  refine wpList_plain hgd fun K hK => ?_
  unfold Oper.wp
  simp [execOp, ho, hs, hrun, Result.andThen]
  exact hK _ _ h

end Go.Proofs.Ytdgpbdedaafdiaa
