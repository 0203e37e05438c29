/-
  What is known of arguments that are slices of bytes, or slices of such: 'SeenAt', 'GridAt'.
-/
import Derived.Test.YtdgpbdedaafdiaaGreatMem
import Derived.ProofKit
import Derived.OpenShut
import Derived.Deep.Matrix
namespace Go.Proofs.YtdgpbdedaafdiaaGreat
open Go.ChangeShapes Go.WideShapes Go.ChangeAt Go.RowKit

theorem byte_of {x : Int} (h : (Lit.int .u8 x).wf = true) : ∃ n : Nat, n < 256 ∧ x = (n : Int) := by
  have h1 : 0 ≤ x ∧ x ≤ 255 := by simpa [Lit.wf, IntKind.min, IntKind.max, IntKind.signed, IntKind.bits] using h
  exact ⟨x.toNat, by omega, by omega⟩

theorem addr_of {w : World} {x : Addr} {v : Value} (h : w.cell? (x.add 0) = some v) : ∃ b off, x = ⟨b, off, none⟩ := by
  obtain ⟨b, off, spot⟩ := x
  have hspot : spot = none := by simpa [Addr.add] using World.cell?_spot h
  subst hspot
  exact ⟨b, off, rfl⟩

/-- The first len numbers of zs, as plain ones. -/
def nats (zs : List Int) (len : Nat) : List Nat := (zs.take len).map Int.toNat
theorem nats_len (zs : List Int) (len : Nat) (h : len ≤ zs.length) : (nats zs len).length = len := by simp [nats]; omega

theorem seen_ints {w : World} {a : Option Addr} {len cap : Nat} {zs : List Int} (hl : len ≤ cap) (hm : cap ≤ maxLen) (hz : zs.length = cap) (hw : ∀ n ∈ zs, (Lit.int .u8 n).wf = true) (h0 : a = none → cap = 0)
    (hc : ∀ a', a = some a' → ∀ c, c < cap → w.cell? (a'.add c) = some (.int .u8 (zs.getD c 0))) : SeenAt w a cap (nats zs len) where
  le := by rw [nats_len _ _ (by omega)]; exact hl
  max := hm
  byte := by
    intro c hc'
    obtain ⟨z, hz', rfl⟩ := List.mem_map.mp hc'
    obtain ⟨m, hm', rfl⟩ := byte_of (hw z (List.mem_of_mem_take hz'))
    simpa using hm'
  cell i hi := by
    rw [nats_len _ _ (by omega)] at hi
    cases a with
    | none => have := h0 rfl; omega
    | some x =>
      obtain ⟨b, off, rfl⟩ := addr_of (hc x rfl 0 (by omega))
      have hcell := hc _ rfl i (by omega)
      rw [Go.WideShapes.add_plain] at hcell
      refine ⟨b, off, rfl, ?_⟩
      rw [hcell]
      have hi' : i < zs.length := by omega
      obtain ⟨m, hm', he⟩ := byte_of (hw (zs[i]) (List.getElem_mem _))
      have e1 : zs.getD i 0 = (m : Int) := by rw [List.getD_eq_getElem?_getD, List.getElem?_eq_getElem hi']; exact he
      have e2 : (nats zs len).getD i 0 = m := by
        unfold nats
        rw [List.getD_eq_getElem?_getD, List.getElem?_map, List.getElem?_take_of_lt hi, List.getElem?_eq_getElem hi']
        simp [he]
      rw [e1, e2]

/-- An argument that is a slice of bytes. -/
theorem seen_arg {H : Type} {enc : TypeId × Value → H} {W : World} {a : Option Addr} {len cap : Nat} {d : DataW H} {ps : List MemPlace} (h : DataW.Trod enc Tryz.prog W 0 (fun _ => true) true 39 (.slice a len cap) d ps) :
    ∃ qs : List Nat, qs.length = len ∧ SeenAt W a cap qs := by
  obtain ⟨fuel, hf⟩ := h
  rcases open_ints Tryz.underlying39 Tryz.underlying5 (by kernel_rfl) hf with ⟨hcs, _⟩ | ⟨x, l, c, zs, hcs, _, hl, hm, hz, _, hcell, hwz⟩
  · simp [Value.cells] at hcs
    obtain ⟨rfl, rfl, rfl⟩ := hcs
    exact ⟨[], rfl, SeenAt.nil (Nat.zero_le _)⟩
  · simp [Value.cells] at hcs
    obtain ⟨rfl, rfl, rfl⟩ := hcs
    have hz' : zs.length = cap := by simpa using hz
    exact ⟨nats zs len, nats_len _ _ (by omega), seen_ints hl hm hz' hwz (fun e => by cases e) fun a' e i hi => by cases e; exact hcell i (by omega)⟩

/-- An argument that is a slice of slices of bytes. -/
theorem grid_arg {H : Type} {enc : TypeId × Value → H} {W : World} {a : Option Addr} {len cap : Nat} {d : DataW H} {ps : List MemPlace} (h : DataW.Trod enc Tryz.prog W 0 (fun _ => true) true 80 (.slice a len cap) d ps) :
    ∃ m : List (List Nat), m.length = len ∧ GridAt W a cap m := by
  obtain ⟨fuel, hf⟩ := h
  rcases Go.Deep.open_int_rows Tryz.underlying80 Tryz.underlying39 Tryz.underlying5 (by kernel_rfl) (by kernel_rfl) hf with ⟨hcs, _⟩ | ⟨x, l, c, A, L, C, Z, hcs, _, hl, hm, _, hrow⟩
  · simp [Value.cells] at hcs
    obtain ⟨rfl, rfl, rfl⟩ := hcs
    exact ⟨[], rfl, GridAt.nil (Nat.zero_le _)⟩
  · simp [Value.cells] at hcs
    obtain ⟨rfl, rfl, rfl⟩ := hcs
    refine ⟨(List.range len).map fun r => nats (Z r) (L r), by simp, ⟨by simpa using hl, hm, fun i hi => ?_⟩⟩
    have hi' : i < len := by simpa using hi
    obtain ⟨hc, hLC, hCm, hZ, hwf, hn, hs⟩ := hrow i (by omega)
    obtain ⟨b, off, rfl⟩ := addr_of (hrow 0 (by omega)).1
    have hc' := hc
    rw [Go.WideShapes.add_plain] at hc'
    have e : ((List.range len).map fun r => nats (Z r) (L r)).getD i [] = nats (Z i) (L i) := by simp [hi']
    rw [e]
    exact ⟨b, off, _, rfl, hc', A i, C i, by rw [nats_len _ _ (by omega)], seen_ints hLC hCm hZ hwf hn fun a' ea c hcc => (hs a' ea).2 c hcc⟩

end Go.Proofs.YtdgpbdedaafdiaaGreat
