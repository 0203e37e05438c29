/-
  What is known of cells that are slices of bytes, or strings.
-/
import Derived.Test.YtdgpbdedaafdiaaArgs
import Derived.Test.YtdgpbdedaafdiaaStr
namespace Go.Proofs.Ytdgpbdedaafdiaa
open Go.ChangeShapes Go.WideShapes Go.ChangeAt Go.RowKit

/-- The cell of a slice of bytes. -/
theorem seen_cell {H : Type} {enc : TypeId × Value → H} {W : World} {fuel : Nat} {v : Value} {x : DataW H × List MemPlace} (hf : DataW.trod enc Try.prog W 0 (fun _ => true) true fuel 30 [v] = some x) :
    ∃ (a : Option Addr) (cap : Nat) (qs : List Nat), v = .slice a qs.length cap ∧ SeenAt W a cap qs := by
  rcases open_ints Try.underlying30 Try.underlying5 (by kernel_rfl) hf with ⟨hcs, _⟩ | ⟨x, l, c, zs, hcs, _, hl, hm, hz, _, hcell, hwz⟩
  · simp at hcs
    exact ⟨none, 0, [], hcs, SeenAt.nil (Nat.zero_le _)⟩
  · simp at hcs
    have hz' : zs.length = c := by simpa using hz
    exact ⟨some x, c, nats zs l, by rw [nats_len _ _ (by omega)]; exact hcs, seen_ints hl hm hz' hwz (fun e => by cases e) fun a' e i hi => by cases e; exact hcell i (by omega)⟩

/-- Every string is one of bytes. -/
theorem str_bytes (s : ByteArray) : ∃ ps : List Nat, Gf.Bytes ps ∧ s = strB ps := by
  refine ⟨s.data.toList.map UInt8.toNat, ?_, ?_⟩
  · intro c hc
    obtain ⟨b, _, rfl⟩ := List.mem_map.mp hc
    exact b.toNat_lt
  · apply ByteArray.ext
    apply Array.ext'
    rw [strB_list, List.map_map]
    have : (UInt8.ofNat ∘ UInt8.toNat) = id := by funext b; simp
    rw [this, List.map_id]

end Go.Proofs.Ytdgpbdedaafdiaa
