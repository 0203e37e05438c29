/-
  Messages in memory: slices of texts ('StrAt'), of sources ('SrcAt'), a message with where its parts lie ('Rm', 'MsgAt'), a box of nineteen cells.
-/
import Derived.Test.YtggjpjpemgpeeaaGreatMg
import Derived.Test.YtggjpjpemgpeeaaGreatFrs
import Derived.Test.YtggjpjpemgpeeaaGreatExt
import Derived.Test.YtggjpjpemgpeeaaGreatWalksY2
namespace Go.Proofs.YtggjpjpemgpeeaaGreat
open Go.RowKit

/-- The cells behind the address a hold the texts ks. -/
structure StrAt (w : World) (a : Option Addr) (cap : Nat) (ks : List (List Nat)) : Prop where
  le : ks.length ≤ cap
  max : cap ≤ maxLen
  cell : ∀ i, i < ks.length → ∃ b off, a = some ⟨b, off, none⟩ ∧ w.cell? ⟨b, off + i, none⟩ = some (.string (strB (ks.getD i [])))

theorem StrAt.below {w w' : World} {a : Option Addr} {cap : Nat} {ks : List (List Nat)} (h : StrAt w a cap ks) (hb : Below w.heap.size w w') : StrAt w' a cap ks :=
  ⟨h.le, h.max, fun i hi => by obtain ⟨b, off, e, hc⟩ := h.cell i hi; exact ⟨b, off, e, cell_later hb hc⟩⟩

theorem StrAt.nil {w : World} {a : Option Addr} {cap : Nat} (h : cap ≤ maxLen) : StrAt w a cap [] := ⟨Nat.zero_le _, h, fun i hi => by simp at hi⟩

/-- The cells behind the address a hold the sources ss. -/
structure SrcAt (w : World) (a : Option Addr) (cap : Nat) (ss : List (Int × Int)) : Prop where
  le : ss.length ≤ cap
  max : cap ≤ maxLen
  cell : ∀ i, i < ss.length → ∃ b off, a = some ⟨b, off, none⟩ ∧ w.cell? ⟨b, off + i * 2, none⟩ = some (.int .i64 (ss.getD i (0, 0)).1) ∧ w.cell? ⟨b, off + i * 2 + 1, none⟩ = some (.int .i64 (ss.getD i (0, 0)).2)

theorem SrcAt.below {w w' : World} {a : Option Addr} {cap : Nat} {ss : List (Int × Int)} (h : SrcAt w a cap ss) (hb : Below w.heap.size w w') : SrcAt w' a cap ss :=
  ⟨h.le, h.max, fun i hi => by obtain ⟨b, off, e, h1, h2⟩ := h.cell i hi; exact ⟨b, off, e, cell_later hb h1, cell_later hb h2⟩⟩

theorem SrcAt.nil {w : World} {a : Option Addr} {cap : Nat} (h : cap ≤ maxLen) : SrcAt w a cap [] := ⟨Nat.zero_le _, h, fun i hi => by simp at hi⟩

/-- A message, where its parts lie, and how many they are. -/
structure Rm where
  m : Pm
  fs : List Fr
  loc : Option Addr
  c : Nat
  fa : Option Addr
  fc : Nat
  ka : Option Addr
  kc : Nat
  ma : Option Addr
  mc : Nat
  sa : Option Addr
  sc : Nat
  na : Option Addr
  nc : Nat
  el : Nat
  fl : Nat
  kl : Nat
  ml : Nat
  sl : Nat
  nl : Nat

def Rm.cells (r : Rm) : Array Value := #[.int .i64 r.m.kind, .int .i64 r.m.frm, .int .i64 r.m.to, .int .i64 r.m.epoch,
  .int .i64 r.m.ent.seq, .int .i64 r.m.ent.client, .int .i64 r.m.ent.num, .int .i64 r.m.ent.op, .string (strB r.m.ent.key), .int .i64 r.m.ent.size, .int .u32 (r.m.ent.sum : Int), .slice r.loc r.el r.c,
  .int .i64 r.m.e, .slice r.fa r.fl r.fc, .slice r.ka r.kl r.kc, .int .i64 r.m.cep, .slice r.ma r.ml r.mc, .slice r.sa r.sl r.sc, .slice r.na r.nl r.nc]

/-- The parts as they are read in the world w. -/
structure MsgAt (w : World) (r : Rm) : Prop where
  ent : SeenAt w r.loc r.c r.m.ent.frag
  frs : FrsAt w r.fa r.fc r.fs
  keys : StrAt w r.ka r.kc r.m.keys
  mem : IntsAt w r.ma r.mc r.m.mem
  srcs : SrcAt w r.sa r.sc r.m.srcs
  ents : EnsAt w r.na r.nc r.m.ents
  el : r.m.ent.frag.length = r.el
  fl : r.fs.length = r.fl
  kl : r.m.keys.length = r.kl
  ml : r.m.mem.length = r.ml
  sl : r.m.srcs.length = r.sl
  nl : r.m.ents.length = r.nl
  hf : r.m.frags = r.fs.map fun f => (f.pos, f.data)
  wf : r.m.Wf

theorem MsgAt.below {w w' : World} {r : Rm} (h : MsgAt w r) (hb : Below w.heap.size w w') : MsgAt w' r :=
  ⟨h.ent.below hb, h.frs.below hb, h.keys.below hb, h.mem.below hb, h.srcs.below hb, h.ents.below hb, h.el, h.fl, h.kl, h.ml, h.sl, h.nl, h.hf, h.wf⟩

theorem MsgAt.frag {w : World} {r : Rm} (h : MsgAt w r) (i : Nat) (_hi : i < r.fs.length) : r.m.frags.getD i (0, []) = ((r.fs.getD i fr0).pos, (r.fs.getD i fr0).data) := by
  rw [h.hf, List.getD_eq_getElem?_getD, List.getD_eq_getElem?_getD, List.getElem?_map]
  cases r.fs[i]? <;> rfl

/-- The zero message. -/
def rm0 : Rm := ⟨pm0, [], none, 0, none, 0, none, 0, none, 0, none, 0, none, 0, 0, 0, 0, 0, 0, 0⟩

theorem pm0_wf : pm0.Wf :=
  ⟨by constructor <;> decide, by constructor <;> decide, by constructor <;> decide, by constructor <;> decide, by constructor <;> decide, by constructor <;> decide, by simp [pm0],
    ⟨by constructor <;> decide, by constructor <;> decide, by constructor <;> decide, by constructor <;> decide, by constructor <;> decide, by decide, by intro c hc; simp [pm0, pe0] at hc, by intro c hc; simp [pm0, pe0] at hc⟩,
    by simp [pm0], by simp [pm0], by simp [pm0], by simp [pm0]⟩

theorem rm0_at (w : World) : MsgAt w rm0 :=
  ⟨SeenAt.nil (Nat.zero_le _), FrsAt.nil (Nat.zero_le _), StrAt.nil (Nat.zero_le _), IntsAt.nil (Nat.zero_le _), SrcAt.nil (Nat.zero_le _), EnsAt.nil (Nat.zero_le _), rfl, rfl, rfl, rfl, rfl, rfl, rfl, pm0_wf⟩

theorem sndMg0 : SndMg pm0 :=
  ⟨by decide, by decide, by decide, by decide, by decide, by decide, by simp [pm0], by simp [pm0], by simp [pm0]⟩

theorem box19 {w : World} {B : Nat} {a0 a1 a2 a3 a4 a5 a6 a7 a8 a9 b0 b1 b2 b3 b4 b5 b6 b7 b8 : Value} (h : Box w B #[a0, a1, a2, a3, a4, a5, a6, a7, a8, a9, b0, b1, b2, b3, b4, b5, b6, b7, b8]) :
    w.cell? ⟨B, 0, none⟩ = some a0 ∧ w.cell? ⟨B, 1, none⟩ = some a1 ∧ w.cell? ⟨B, 2, none⟩ = some a2 ∧ w.cell? ⟨B, 3, none⟩ = some a3 ∧ w.cell? ⟨B, 4, none⟩ = some a4 ∧ w.cell? ⟨B, 5, none⟩ = some a5 ∧ w.cell? ⟨B, 6, none⟩ = some a6 ∧
    w.cell? ⟨B, 7, none⟩ = some a7 ∧ w.cell? ⟨B, 8, none⟩ = some a8 ∧ w.cell? ⟨B, 9, none⟩ = some a9 ∧ w.cell? ⟨B, 10, none⟩ = some b0 ∧ w.cell? ⟨B, 11, none⟩ = some b1 ∧ w.cell? ⟨B, 12, none⟩ = some b2 ∧ w.cell? ⟨B, 13, none⟩ = some b3 ∧
    w.cell? ⟨B, 14, none⟩ = some b4 ∧ w.cell? ⟨B, 15, none⟩ = some b5 ∧ w.cell? ⟨B, 16, none⟩ = some b6 ∧ w.cell? ⟨B, 17, none⟩ = some b7 ∧ w.cell? ⟨B, 18, none⟩ = some b8 :=
  ⟨h 0 _ rfl, h 1 _ rfl, h 2 _ rfl, h 3 _ rfl, h 4 _ rfl, h 5 _ rfl, h 6 _ rfl, h 7 _ rfl, h 8 _ rfl, h 9 _ rfl, h 10 _ rfl, h 11 _ rfl, h 12 _ rfl, h 13 _ rfl, h 14 _ rfl, h 15 _ rfl, h 16 _ rfl, h 17 _ rfl, h 18 _ rfl⟩

theorem pick_gen {α : Type} (d : α) {P : Nat → α → Prop} : ∀ n : Nat, (∀ i, i < n → ∃ f, P i f) → ∃ fs : List α, fs.length = n ∧ ∀ i, i < n → P i (fs.getD i d)
  | 0, _ => ⟨[], rfl, fun i hi => by omega⟩
  | n + 1, h => by
    obtain ⟨fs, hl, hf⟩ := pick_gen d n fun i hi => h i (by omega)
    obtain ⟨f, hn⟩ := h n (by omega)
    refine ⟨fs ++ [f], by simp [hl], fun i hi => ?_⟩
    by_cases e : i = n
    · have e1 := getD_app_eq fs f d
      rw [hl] at e1
      rw [e, e1]; exact hn
    · rw [getD_app_lt fs f d i (by omega)]; exact hf i (by omega)

theorem each_of {α : Type} (d : α) {Q : α → Prop} (xs : List α) (h : ∀ i, i < xs.length → Q (xs.getD i d)) : ∀ x ∈ xs, Q x := by
  intro x hx
  obtain ⟨i, hi, rfl⟩ := List.mem_iff_getElem.mp hx
  have := h i hi
  rwa [List.getD_eq_getElem?_getD, List.getElem?_eq_getElem hi] at this

end Go.Proofs.YtggjpjpemgpeeaaGreat
