/-
  Slices of entries in memory ('EnsAt'); when members, entries and records are sound, by the program and by the reference.
-/
import Derived.Test.YtdifnipjmnbojaaWalksY1
namespace Go.Proofs.Ytdifnipjmnbojaa
open Go.RowKit

/-- The cells from place o of block b on hold the entry e. -/
structure EnCells (w : World) (b o : Nat) (e : Pe) (loc : Option Addr) (c : Nat) : Prop where
  c0 : w.cell? ⟨b, o, none⟩ = some (.int .i64 e.seq)
  c1 : w.cell? ⟨b, o + 1, none⟩ = some (.int .i64 e.client)
  c2 : w.cell? ⟨b, o + 2, none⟩ = some (.int .i64 e.num)
  c3 : w.cell? ⟨b, o + 3, none⟩ = some (.int .i64 e.op)
  c4 : w.cell? ⟨b, o + 4, none⟩ = some (.string (strB e.key))
  c5 : w.cell? ⟨b, o + 5, none⟩ = some (.int .i64 e.size)
  c6 : w.cell? ⟨b, o + 6, none⟩ = some (.int .u32 (e.sum : Int))
  c7 : w.cell? ⟨b, o + 7, none⟩ = some (.slice loc e.frag.length c)
  seen : SeenAt w loc c e.frag

theorem EnCells.below {w w' : World} {b o : Nat} {e : Pe} {loc : Option Addr} {c : Nat} (h : EnCells w b o e loc c) (hb : Below w.heap.size w w') : EnCells w' b o e loc c :=
  ⟨cell_later hb h.c0, cell_later hb h.c1, cell_later hb h.c2, cell_later hb h.c3, cell_later hb h.c4, cell_later hb h.c5, cell_later hb h.c6, cell_later hb h.c7, h.seen.below hb⟩

/-- The cells behind the address a hold the entries es. -/
structure EnsAt (w : World) (a : Option Addr) (cap : Nat) (es : List Pe) : Prop where
  le : es.length ≤ cap
  max : cap ≤ maxLen
  el : ∀ i, i < es.length → ∃ b off loc c, a = some ⟨b, off, none⟩ ∧ EnCells w b (off + i * 8) (es.getD i pe0) loc c
  wf : ∀ e ∈ es, e.Wf

theorem EnsAt.below {w w' : World} {a : Option Addr} {cap : Nat} {es : List Pe} (h : EnsAt w a cap es) (hb : Below w.heap.size w w') : EnsAt w' a cap es :=
  ⟨h.le, h.max, fun i hi => by obtain ⟨b, off, loc, c, e, h1⟩ := h.el i hi; exact ⟨b, off, loc, c, e, h1.below hb⟩, h.wf⟩

theorem EnsAt.nil {w : World} {a : Option Addr} {cap : Nat} (h : cap ≤ maxLen) : EnsAt w a cap [] := ⟨Nat.zero_le _, h, fun i hi => by simp at hi, by simp⟩

theorem IntsAt.nil {w : World} {a : Option Addr} {cap : Nat} (h : cap ≤ maxLen) : IntsAt w a cap [] := ⟨Nat.zero_le _, h, fun i => by simp, fun i hi => by simp at hi⟩

/-- The value of an entry. -/
def Pe.val (e : Pe) (loc : Option Addr) (c : Nat) : Value := .agg #[.int .i64 e.seq, .int .i64 e.client, .int .i64 e.num, .int .i64 e.op, .string (strB e.key), .int .i64 e.size, .int .u32 (e.sum : Int), .slice loc e.frag.length c]

theorem sndRaw_eq (e : Pe) : sndRaw e.seq e.client e.num e.op (strB e.key) e.size e.frag.length = sndE e := by unfold sndRaw sndE; rw [strB_size]

theorem all_no {α : Type} (m : List α) (p : α → Bool) (d : α) (k : Nat) (h : k < m.length) (hp : p (m.getD k d) = false) : m.all p = false := by
  rw [List.all_eq_false]
  exact ⟨m.getD k d, getD_mem m k d h, by rw [hp]; simp⟩

theorem all_yes {α : Type} (m : List α) (p : α → Bool) (d : α) (h : ∀ k, k < m.length → p (m.getD k d) = true) : m.all p = true := by
  rw [List.all_eq_true]
  intro x hx
  obtain ⟨k, hk, rfl⟩ := List.mem_iff_getElem.mp hx
  have := h k hk
  rwa [List.getD_eq_getElem?_getD, List.getElem?_eq_getElem hk] at this

/-- The first k are all right. -/
def UpTo {α : Type} (m : List α) (p : α → Bool) (d : α) (k : Nat) : Prop := ∀ j, j < k → p (m.getD j d) = true

theorem UpTo.step {α : Type} {m : List α} {p : α → Bool} {d : α} {k : Nat} (h : UpTo m p d k) (hk : p (m.getD k d) = true) : UpTo m p d (k + 1) := fun j hj => by
  by_cases e : j = k
  · rw [e]; exact hk
  · exact h j (by omega)

theorem upTo_zero {α : Type} (m : List α) (p : α → Bool) (d : α) : UpTo m p d 0 := fun j hj => by omega

/-- Is there one that is not sound, and where. -/
def IdxA (w : World) (b : Bool) (e : Ending) (w' : World) : Prop :=
  ((b = true ∧ e = .returned (.int .i64 (-1))) ∨ (b = false ∧ ∃ j : Nat, e = .returned (.int .i64 (j : Int)))) ∧ Below w.heap.size w w'

def cnfB (n : Int) (zs : List Int) : Bool := zs.all (fun z => win z 15) && win n 1099511627776 && decide (zs.length ≤ 16)

/-- What a new block holds it holds later too. -/
theorem box_later {w w1 : World} {C : Array Value} {t : TypeId} (hb : Below (w.alloc (.cells C t)).heap.size (w.alloc (.cells C t)) w1) (i : Nat) (v : Value) (h : C[i]? = some v) : w1.cell? ⟨w.heap.size, i, none⟩ = some v :=
  cell_later hb (by rw [World.cell?_alloc_mark]; exact h)

/-- A record whose members lie at ma, and its entries at ea. -/
structure RecAt (w : World) (ma : Option Addr) (mc : Nat) (ea : Option Addr) (ec : Nat) (r : Pr) : Prop where
  mem : IntsAt w ma mc r.mem
  ents : EnsAt w ea ec r.ents
  wf : r.Wf

theorem RecAt.below {w w' : World} {ma ea : Option Addr} {mc ec : Nat} {r : Pr} (h : RecAt w ma mc ea ec r) (hb : Below w.heap.size w w') : RecAt w' ma mc ea ec r := ⟨h.mem.below hb, h.ents.below hb, h.wf⟩






theorem win2_14 (n : Int) : win2 n 1 4 = (decide (1 ≤ n) && decide (n ≤ 4)) := rfl

theorem sndEs_int (es : List Pe) : (decide ((es.length : Int) ≤ 4096) && es.all sndE) = sndEs es := by
  unfold sndEs
  rw [Bool.eq_iff_iff]
  simp
  omega

end Go.Proofs.Ytdifnipjmnbojaa
