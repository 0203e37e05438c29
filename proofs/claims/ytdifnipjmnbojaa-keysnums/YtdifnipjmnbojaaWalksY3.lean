/-
  The bytes of entries and records, by the program: packedNumbers, packedEntry, Encode.
-/
import Derived.Test.YtdifnipjmnbojaaWalksY2
import Derived.Laws.IdiomStrings
namespace Go.Proofs.Ytdifnipjmnbojaa
open Go.RowKit

/-- Integers as the cells hold them. -/
def ivals (zs : List Int) : List Value := zs.map fun z => .int .i64 z

theorem ints_lit (w : World) (zs : List Int) (cs : Array Value) (n B : Nat) (hB : w.heap.size = B) (hcs : cs.toList = ivals zs) (hn : zs.length = n) (hw : ∀ z ∈ zs, I64 z) (hm : n ≤ maxLen) :
    IntsAt (w.alloc (.cells cs 3)) (some ⟨B, 0, none⟩) n zs where
  le := by omega
  max := hm
  wf i := by
    rw [List.getD_eq_getElem?_getD]
    by_cases hi : i < zs.length
    · rw [List.getElem?_eq_getElem hi]; exact hw _ (List.getElem_mem hi)
    · rw [List.getElem?_eq_none (by omega)]; simp
  cell i hi := ⟨B, 0, rfl, by
    rw [Nat.zero_add, ← hB, World.cell?_alloc_mark, ← Array.getElem?_toList, hcs, List.getD_eq_getElem?_getD, List.getElem?_eq_getElem hi]
    simp [ivals, hi]⟩

theorem IntsAt.each {w : World} {a : Option Addr} {cap : Nat} {zs : List Int} (h : IntsAt w a cap zs) : ∀ z ∈ zs, I64 z := by
  intro z hz
  obtain ⟨i, hi, rfl⟩ := List.mem_iff_getElem.mp hz
  have := h.wf i
  rwa [List.getD_eq_getElem?_getD, List.getElem?_eq_getElem hi] at this

/-- []byte(s) of a string of these bytes: a new block. -/
theorem conv_str (w : World) (ps : List Nat) (hB : Gf.Bytes ps) (hl : ps.length ≤ 1000000000) :
    ∃ c w', (convert 9 24 (.string (strB ps))).run Try.prog w = .ok (.slice (some ⟨w.heap.size, 0, none⟩) ps.length c) w' ∧ SeenAt w' (some ⟨w.heap.size, 0, none⟩) c ps ∧ Below w.heap.size w w' := by
  have h := run_bytes_of_string (P := Try.prog) w 9 24 5 (strB ps) Try.underlying9 Try.underlying24 Try.underlying5
  rw [strB_size] at h
  refine ⟨_, _, h, ⟨grownCap_ge w _ _ _, grownCap_le_maxLen w _ _ _ (by unfold maxLen; omega), hB, fun i hi => ⟨w.heap.size, 0, rfl, ?_⟩⟩, (Below.refl _ _).drew.trans ((below_one _ _).mono (Nat.le_refl _))⟩
  rw [Nat.zero_add]
  have := World.cell?_alloc_mark w.drew (bytesRow (strB ps) (grownCap w ps.length 0 5)) 5 ((bytesRow (strB ps) (grownCap w ps.length 0 5)).size, (bytesRow (strB ps) (grownCap w ps.length 0 5)).size + 1) i
  have hz : i < (strB ps).data.size := by
    have := strB_size ps
    show i < (strB ps).size
    omega
  rw [bytesRow_at _ _ _ hz] at this
  refine this.trans ?_
  have e : (strB ps).data[i].toNat = ps.getD i 0 := by
    have h1 : (strB ps).data.toList[i]? = some (UInt8.ofNat ps[i]) := by rw [strB_list]; simp [hi]
    have h2 : (strB ps).data[i] = UInt8.ofNat ps[i] := by
      rw [Array.getElem?_toList, Array.getElem?_eq_getElem hz] at h1
      exact Option.some.inj h1
    rw [h2, UInt8.toNat_ofNat', List.getD_eq_getElem?_getD, List.getElem?_eq_getElem hi, Nat.mod_eq_of_lt (hB _ (List.getElem_mem hi))]
    rfl
  rw [e]

theorem RowB.at_ {w : World} {base n cap : Nat} {a : Option Addr} {ps : List Nat} (h : RowB w base (.slice a n cap) ps) : ps.length = n ∧ SeenAt w a cap ps := by
  rcases h.own.2 with ⟨hv, h0⟩ | ⟨g, cap', cur, hv, _, hg, hnc, hcm, _⟩
  · have : ps = [] := List.length_eq_zero_iff.mp h0
    subst this
    cases hv
    exact ⟨rfl, SeenAt.nil (Nat.zero_le _)⟩
  · cases hv
    exact ⟨rfl, OwnB.seenAt ⟨h.own, h.byte⟩⟩

theorem RowB.own_ {w : World} {base n cap : Nat} {a : Option Addr} {ps : List Nat} (h : RowB w base (.slice a n cap) ps) (h0 : 0 < ps.length) : ∃ g, a = some ⟨g, 0, Option.none⟩ ∧ OwnB w base g cap ps := by
  have hl := h.at_.1
  subst hl
  rcases h.own.2 with ⟨hv, h0'⟩ | ⟨g, cap', cur, hv, _, hg, hnc, hcm, _⟩
  · cases ps with
    | nil => simp at h0
    | cons c p => cases hv
  · cases hv
    exact ⟨g, rfl, h.own, h.byte⟩

/-- Bytes handed back, in memory of the call's own, or none. -/
def RetW (w : World) (ps : List Nat) (e : Ending) (w' : World) : Prop :=
  ∃ a cap, e = .returned (.slice a ps.length cap) ∧ RowB w' w.heap.size (.slice a ps.length cap) ps ∧ Below w.heap.size w w'

theorem RetW.toO {w w' : World} {ps : List Nat} {e : Ending} (h : RetW w ps e w') (h0 : 0 < ps.length) : RetO w ps e w' := by
  obtain ⟨a, cap, rfl, hr, hb⟩ := h
  obtain ⟨g, rfl, ho⟩ := hr.own_ h0
  exact ⟨g, cap, rfl, ho, hb⟩

theorem Pe.Wf.six {e : Pe} (h : e.Wf) : ∀ z ∈ [e.seq, e.client, e.num, e.op, e.size, (e.sum : Int)], I64 z := by
  intro z hz
  simp at hz
  have hs := h.sum
  rcases hz with rfl | rfl | rfl | rfl | rfl | rfl
  · exact h.seq
  · exact h.client
  · exact h.num
  · exact h.op
  · exact h.size
  · exact ⟨by omega, by omega⟩

theorem Pr.Wf.five {r : Pr} (h : r.Wf) (hl : r.mem.length ≤ 1000000) : ∀ z ∈ [r.kind, r.epoch, r.pos, r.last, (r.mem.length : Int)], I64 z := by
  intro z hz
  simp at hz
  rcases hz with rfl | rfl | rfl | rfl | rfl
  · exact h.kind
  · exact h.epoch
  · exact h.pos
  · exact h.last
  · exact ⟨by omega, by omega⟩

end Go.Proofs.Ytdifnipjmnbojaa
