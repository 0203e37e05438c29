/-
  Slices of texts that are only read; the reference's Texts; what Find answers, in one word.
-/
import Derived.Test.YtdifnipjmnbojaaWalksK9
import Derived.BigQuiet
namespace Go.Proofs.Ytdifnipjmnbojaa
open Go.RowKit

/-- The cells behind the address a hold the texts ss. -/
structure StrsAt (w : World) (a : Option Addr) (cap : Nat) (ss : List (List UInt8)) : Prop where
  le : ss.length ≤ cap
  max : cap ≤ maxLen
  cell : ∀ i, i < ss.length → ∃ b off, a = some ⟨b, off, none⟩ ∧ w.cell? ⟨b, off + i, none⟩ = some (encStr (ss.getD i []))

theorem StrsAt.below {w w' : World} {a : Option Addr} {cap : Nat} {ss : List (List UInt8)} (h : StrsAt w a cap ss) (hb : Below w.heap.size w w') : StrsAt w' a cap ss :=
  ⟨h.le, h.max, fun i hi => by obtain ⟨b, off, e, hc⟩ := h.cell i hi; exact ⟨b, off, e, cell_later hb hc⟩⟩

theorem strs_own {w : World} {base n c : Nat} {a : Option Addr} {ss : List (List UInt8)} (h : w.ownsRow base 9 1 (.slice a n c) n (ss.map encStr)) (hn : ss.length = n) : StrsAt w a c ss := by
  rcases h.2 with ⟨hv, h0⟩ | ⟨g, cap', cur, hv, hgb, hg, hnc, hcm, _⟩
  · have e0 : ss = [] := List.length_eq_zero_iff.mp (by omega)
    cases hv
    subst e0
    exact ⟨Nat.le_refl _, Nat.zero_le _, fun i hi => by simp at hi⟩
  · cases hv
    refine ⟨by omega, hcm, fun i hi => ⟨g, 0, rfl, ?_⟩⟩
    rw [Nat.zero_add, World.ownsRow.cellAt h i (by omega), List.getD_eq_getElem?_getD, List.getElem?_eq_getElem hi]
    simp [hi]

theorem enc_same (x y : List UInt8) : ((⟨x.toArray⟩ : ByteArray).toList == (⟨y.toArray⟩ : ByteArray).toList) = decide (x = y) := by
  rw [Bool.eq_iff_iff, beq_iff_eq, decide_eq_true_iff, ByteArray.toList_eq, ByteArray.toList_eq]

set_option maxRecDepth 100000 in
set_option maxHeartbeats 1000000 in
theorem texts_any (a a' : Option Addr) (c c' l l' : Nat) (ss ts : List (List UInt8)) (w : World) (hl : ss.length = l) (hl' : ts.length = l') (h : StrsAt w a c ss) (h' : StrsAt w a' c' ts) :
    Calls Try.prog 12 #[.slice a l c, .slice a' l' c'] w fun e w' => e = .returned (.bool (decide (ss = ts))) ∧ Below w.heap.size w w' := by
  have hm : l ≤ maxLen := by have := h.le; have := h.max; omega
  have hm' : l' ≤ maxLen := by have := h'.le; have := h'.max; omega
  unfold maxLen at hm hm'
  have HS := Lib.hid h
  have HT := Lib.hid h'
  have HL := Lib.hid hl
  have HL' := Lib.hid hl'
  clear hl hl' h h'
  by_cases hne : l = l'
  · subst hne
    go_enter Try.func12, Try.ntmps12
    go_wp2
    go_loopw [5] (fun i ws => ∃ k : Nat, k ≤ l ∧ i = .int .i64 k ∧ Hid (∀ j, j < k → ss.getD j [] = ts.getD j []) ∧ Hid (Below w.heap.size w ws)) (fun i _ => l - (intOf i).toNat)
    case atStart => exact ⟨0, Nat.zero_le _, rfl, (fun j hj => by omega), Below.refl _ _⟩
    case round =>
      obtain ⟨k, hk, rfl, HA, HB⟩ := hrel
      by_cases hlt : k < l
      · obtain ⟨b, off, rfl, hc⟩ := (HS.out.below HB.out).cell k (by rw [HL.out]; exact hlt)
        obtain ⟨b', off', rfl, hc'⟩ := (HT.out.below HB.out).cell k (by rw [HL'.out]; exact hlt)
        have HX : Hid (ss.getD k [] = ts.getD k [] → ∀ j, j < k + 1 → ss.getD j [] = ts.getD j []) := fun e j hj => by
          by_cases e' : j = k
          · rw [e']; exact e
          · exact HA.out j (by omega)
        have HY : Hid (¬ ss.getD k [] = ts.getD k [] → ¬ ss = ts) := fun e e' => e (by rw [e'])
        generalize ss.getD k [] = x at *
        generalize ts.getD k [] = y at *
        unfold encStr at hc hc'
        have d0 := enc_same x y
        generalize (⟨x.toArray⟩ : ByteArray) = sx at *
        generalize (⟨y.toArray⟩ : ByteArray) = sy at *
        have j1 : (k : Int) < (l : Int) := by omega
        have j0 : (0 : Int) ≤ (k : Int) := by omega
        by_cases e : x = y
        · have d1 : (sx.toList == sy.toList) = true := by rw [d0]; simp [e]
          have HX1 := Lib.hid (HX.out e)
          clear d0 HX HY e HA
          go_wp2_with fail
          go_region
          all_goals
            go_wp2
            go_roundw
            case rel => exact ⟨k + 1, by omega, by go_num, HX1, HB.out.drew⟩
            case measure => simp [intOf]; omega
        · have d1 : (sx.toList == sy.toList) = false := by rw [d0]; simp [e]
          have HF : Hid (false = decide (ss = ts)) := by have := HY.out e; show _ = _; simp [this]
          clear d0 HX HY e HA
          go_wp2_with fail
          go_region
          all_goals
            go_wp2
            go_ret
            exact ⟨ret_boolean HF.out, HB.out.drew⟩
      · obtain rfl : k = l := by omega
        have HF : Hid (true = decide (ss = ts)) := by
          show _ = _
          symm
          rw [decide_eq_true_iff]
          apply List.ext_getElem (by rw [HL.out, HL'.out])
          intro j h1 h2
          have := HA.out j (by rw [HL.out] at h1; exact h1)
          rwa [List.getD_eq_getElem?_getD, List.getD_eq_getElem?_getD, List.getElem?_eq_getElem h1, List.getElem?_eq_getElem h2] at this
        go_wp2
        go_ret
        exact ⟨ret_boolean HF.out, HB.out⟩
  · have HF : Hid (false = decide (ss = ts)) := by
      show _ = _
      have : ¬ ss = ts := fun e => hne (by rw [← HL.out, ← HL'.out, e])
      simp [this]
    have d1 : ((l : Int) == (l' : Int)) = false := by simp; omega
    clear hne
    go_enter Try.func12, Try.ntmps12
    go_wp2
    go_ret
    exact ⟨ret_boolean HF.out, Below.refl _ _⟩

/-- What Find answers for a place. -/
def ansF (es : List Pe) : Option Nat → Pe × Bool
  | some i => (es.getD i pe0, true)
  | none => (pe0, false)

/-- An entry and a bool handed back. -/
def RetA (w : World) (p : Pe) (b : Bool) (e : Ending) (w' : World) : Prop :=
  ∃ loc c, e = .returned (.tuple #[.agg #[.int .i64 p.seq, .int .i64 p.client, .int .i64 p.num, .int .i64 p.op, .string (strB p.key), .int .i64 p.size, .int .u32 (p.sum : Int), .slice loc p.frag.length c], .bool b]) ∧ SeenAt w' loc c p.frag ∧ Below w.heap.size w w'

theorem RetFd.one {w : World} {es : List Pe} {o : Option Nat} {e : Ending} {w' : World} (h : RetFd w es o e w') : RetA w (ansF es o).1 (ansF es o).2 e w' := by
  cases o with
  | some i => exact h
  | none => exact ⟨none, 0, h.1, SeenAt.nil (Nat.zero_le _), h.2⟩

end Go.Proofs.Ytdifnipjmnbojaa
