/-
  The bytes of entries and records, by the program: packedNumbers, packedEntry, Encode.
-/
import Derived.Test.YtdgpbdedaafdiaaWalksY2
import Derived.Laws.IdiomStrings
namespace Go.Proofs.Ytdgpbdedaafdiaa
open Go.RowKit

/-- Integers as the cells hold them. -/
def ivals (zs : List Int) : List Value := zs.map fun z => .int .i64 z

theorem ints_lit (w : World) (zs : List Int) (cs : Array Value) (n B : Nat) (hB : w.heap.size = B) (hcs : cs.toList = ivals zs) (hn : zs.length = n) (hw : ∀ z ∈ zs, I64 z) (hm : n ≤ maxLen) :
    IntsAt (w.alloc (.cells cs 3)) (some ⟨B, 0, none⟩) n zs where
  le := by omega
  max := hm
  wf i := by
    rw [List.getD_eq_getElem?_getD]
    by_cases hi : i < zs.length
    · rw [List.getElem?_eq_getElem hi]; exact hw _ (List.getElem_mem hi)
    · rw [List.getElem?_eq_none (by omega)]; simp
  cell i hi := ⟨B, 0, rfl, by
    rw [Nat.zero_add, ← hB, World.cell?_alloc_mark, ← Array.getElem?_toList, hcs, List.getD_eq_getElem?_getD, List.getElem?_eq_getElem hi]
    simp [ivals, hi]⟩

theorem IntsAt.each {w : World} {a : Option Addr} {cap : Nat} {zs : List Int} (h : IntsAt w a cap zs) : ∀ z ∈ zs, I64 z := by
  intro z hz
  obtain ⟨i, hi, rfl⟩ := List.mem_iff_getElem.mp hz
  have := h.wf i
  rwa [List.getD_eq_getElem?_getD, List.getElem?_eq_getElem hi] at this

/-- []byte(s) of a string of these bytes: a new block. -/
theorem conv_str (w : World) (ps : List Nat) (hB : Gf.Bytes ps) (hl : ps.length ≤ 1000000000) :
    ∃ c w', (convert 9 30 (.string (strB ps))).run Try.prog w = .ok (.slice (some ⟨w.heap.size, 0, none⟩) ps.length c) w' ∧ SeenAt w' (some ⟨w.heap.size, 0, none⟩) c ps ∧ Below w.heap.size w w' := by
  have h := run_bytes_of_string (P := Try.prog) w 9 30 5 (strB ps) Try.underlying9 Try.underlying30 Try.underlying5
  rw [strB_size] at h
  refine ⟨_, _, h, ⟨grownCap_ge w _ _ _, grownCap_le_maxLen w _ _ _ (by unfold maxLen; omega), hB, fun i hi => ⟨w.heap.size, 0, rfl, ?_⟩⟩, (Below.refl _ _).drew.trans ((below_one _ _).mono (Nat.le_refl _))⟩
  rw [Nat.zero_add]
  have := World.cell?_alloc_mark w.drew (bytesRow (strB ps) (grownCap w ps.length 0 5)) 5 ((bytesRow (strB ps) (grownCap w ps.length 0 5)).size, (bytesRow (strB ps) (grownCap w ps.length 0 5)).size + 1) i
  have hz : i < (strB ps).data.size := by
    have := strB_size ps
    show i < (strB ps).size
    omega
  rw [bytesRow_at _ _ _ hz] at this
  refine this.trans ?_
  have e : (strB ps).data[i].toNat = ps.getD i 0 := by
    have h1 : (strB ps).data.toList[i]? = some (UInt8.ofNat ps[i]) := by rw [strB_list]; simp [hi]
    have h2 : (strB ps).data[i] = UInt8.ofNat ps[i] := by
      rw [Array.getElem?_toList, Array.getElem?_eq_getElem hz] at h1
      exact Option.some.inj h1
    rw [h2, UInt8.toNat_ofNat', List.getD_eq_getElem?_getD, List.getElem?_eq_getElem hi, Nat.mod_eq_of_lt (hB _ (List.getElem_mem hi))]
    rfl
  rw [e]

theorem RowB.at_ {w : World} {base n cap : Nat} {a : Option Addr} {ps : List Nat} (h : RowB w base (.slice a n cap) ps) : ps.length = n ∧ SeenAt w a cap ps := by
  rcases h.own.2 with ⟨hv, h0⟩ | ⟨g, cap', cur, hv, _, hg, hnc, hcm, _⟩
  · have : ps = [] := List.length_eq_zero_iff.mp h0
    subst this
    cases hv
    exact ⟨rfl, SeenAt.nil (Nat.zero_le _)⟩
  · cases hv
    exact ⟨rfl, OwnB.seenAt ⟨h.own, h.byte⟩⟩

theorem RowB.own_ {w : World} {base n cap : Nat} {a : Option Addr} {ps : List Nat} (h : RowB w base (.slice a n cap) ps) (h0 : 0 < ps.length) : ∃ g, a = some ⟨g, 0, Option.none⟩ ∧ OwnB w base g cap ps := by
  have hl := h.at_.1
  subst hl
  rcases h.own.2 with ⟨hv, h0'⟩ | ⟨g, cap', cur, hv, _, hg, hnc, hcm, _⟩
  · cases ps with
    | nil => simp at h0
    | cons c p => cases hv
  · cases hv
    exact ⟨g, rfl, h.own, h.byte⟩

/-- Bytes handed back, in memory of the call's own, or none. -/
def RetW (w : World) (ps : List Nat) (e : Ending) (w' : World) : Prop :=
  ∃ a cap, e = .returned (.slice a ps.length cap) ∧ RowB w' w.heap.size (.slice a ps.length cap) ps ∧ Below w.heap.size w w'

theorem RetW.toO {w w' : World} {ps : List Nat} {e : Ending} (h : RetW w ps e w') (h0 : 0 < ps.length) : RetO w ps e w' := by
  obtain ⟨a, cap, rfl, hr, hb⟩ := h
  obtain ⟨g, rfl, ho⟩ := hr.own_ h0
  exact ⟨g, cap, rfl, ho, hb⟩

set_option maxRecDepth 100000 in
set_option maxHeartbeats 1000000 in
theorem packedNumbers_row (a : Option Addr) (cap l : Nat) (zs : List Int) (w : World) (hl : zs.length = l) (h : IntsAt w a cap zs) (hm : l ≤ 1000000) :
    Calls Try.prog 74 #[.slice a l cap] w (RetW w (encs zs)) := by
  have HI := Lib.hid h
  have HL := Lib.hid hl
  clear h hl
  go_enter Try.func74, Try.ntmps74
  go_wp2
  go_loopw [3, 5, 8] (fun v _ i ws => ∃ (k c : Nat) (x : Option Addr), k ≤ l ∧ i = .int .i64 k ∧ v = .slice x (encs (zs.take k)).length c ∧ Hid (RowB ws w.heap.size (.slice x (encs (zs.take k)).length c) (encs (zs.take k))) ∧ Hid (Below w.heap.size w ws)) (fun _ _ i _ => l - (intOf i).toNat)
  case atStart => exact ⟨0, 0, none, Nat.zero_le _, rfl, rfl, RowB.none _ _, Below.refl _ _⟩
  case round =>
    obtain ⟨k, c, x, hk, rfl, rfl, HR, HB⟩ := hrel
    by_cases hlt : k < l
    · obtain ⟨b, off, rfl, hc⟩ := (HI.out.below HB.out).cell k (by rw [HL.out]; exact hlt)
      have hz := HI.out.wf k
      have HN := Lib.hid (encs_snoc zs k (by rw [HL.out]; exact hlt))
      have HLN : Hid ((encs (zs.take k)).length ≤ 10000000) := by
        have := encs_len (zs.take k)
        have : (zs.take k).length ≤ k := List.length_take_le _ _
        show _ ≤ _
        omega
      have HS := Lib.hid HR.out.at_.2
      generalize hq : (encs (zs.take k)).length = q at *
      have HQ := Lib.hid hq
      clear hq
      generalize zs.getD k 0 = z at *
      go_wp2_with fail
      refine (packNum_own _ _ _ (encs (zs.take k)) z _ HQ.out (by have := HLN.out; omega) HS.out hz.1 hz.2).mono ?_
      rintro e w2 ⟨g2, y2, rfl, ho2, hb2⟩
      have HR2 : Hid (RowB w2 w.heap.size (.slice (some ⟨g2, 0, none⟩) (encs (zs.take (k + 1))).length y2) (encs (zs.take (k + 1)))) := by
        show RowB _ _ _ _
        rw [HN.out]
        exact (ho2.base HB.out.size).row
      have HB2 := Lib.hid (HB.out.trans (hb2.mono HB.out.size))
      rw [← HN.out]
      clear ho2 hb2
      go_wp2
      go_roundw
      case rel => exact ⟨k + 1, y2, some ⟨g2, 0, none⟩, by omega, by go_num, rfl, HR2, HB2⟩
      case measure => simp [intOf]; omega
    · obtain rfl : k = l := by omega
      have HT : Hid (zs.take k = zs) := List.take_of_length_le (by rw [HL.out]; omega)
      rw [HT.out] at HR ⊢
      have HF : Hid (RetW w (encs zs) (.returned (.slice x (encs zs).length c)) wr) := ⟨x, c, rfl, HR.out, HB.out⟩
      generalize (encs zs).length = q at *
      go_wp2
      go_ret
      exact HF.out

theorem packedNumbers_own (a : Option Addr) (cap l : Nat) (zs : List Int) (w : World) (hl : zs.length = l) (h : IntsAt w a cap zs) (hm : l ≤ 1000000) (h0 : 0 < l) :
    Calls Try.prog 74 #[.slice a l cap] w (RetO w (encs zs)) :=
  (packedNumbers_row a cap l zs w hl h hm).mono fun _ _ hr => hr.toO (by
    cases zs with
    | nil => simp at hl; omega
    | cons z zs =>
      have := (Pk.num_len z).1
      show 0 < (Pk.num z ++ encs zs).length
      rw [List.length_append]
      omega)

theorem packedNumbers_any (a : Option Addr) (cap l : Nat) (zs : List Int) (w : World) (hl : zs.length = l) (h : IntsAt w a cap zs) (hm : l ≤ 1000000) :
    Calls Try.prog 74 #[.slice a l cap] w fun e w' => ∃ x c, e = .returned (.slice x (encs zs).length c) ∧ SeenAt w' x c (encs zs) ∧ Below w.heap.size w w' :=
  (packedNumbers_row a cap l zs w hl h hm).mono fun _ _ ⟨x, c, h1, h2, h3⟩ => ⟨x, c, h1, h2.at_.2, h3⟩

theorem Pe.Wf.six {e : Pe} (h : e.Wf) : ∀ z ∈ [e.seq, e.client, e.num, e.op, e.size, (e.sum : Int)], I64 z := by
  intro z hz
  simp at hz
  have hs := h.sum
  rcases hz with rfl | rfl | rfl | rfl | rfl | rfl
  · exact h.seq
  · exact h.client
  · exact h.num
  · exact h.op
  · exact h.size
  · exact ⟨by omega, by omega⟩

theorem Pr.Wf.five {r : Pr} (h : r.Wf) (hl : r.mem.length ≤ 1000000) : ∀ z ∈ [r.kind, r.epoch, r.pos, r.last, (r.mem.length : Int)], I64 z := by
  intro z hz
  simp at hz
  rcases hz with rfl | rfl | rfl | rfl | rfl
  · exact h.kind
  · exact h.epoch
  · exact h.pos
  · exact h.last
  · exact ⟨by omega, by omega⟩

end Go.Proofs.Ytdgpbdedaafdiaa
