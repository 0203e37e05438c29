/-
  keys.Names: the keys that are there, sorted.
-/
import Derived.Test.YtdifnipjmnbojaaWalksK6
namespace Go.Proofs.Ytdifnipjmnbojaa
open Go.RowKit Go.Maps Go.Sort






theorem infoStr : (Try.prog.info? 9).map (fun i => (i.zero, i.size, i.bytes)) = some (some (.string ⟨#[]⟩), 1, 16) := by kernel_rfl

theorem enc_kb (p : Pe) : encStr (kb p) = .string (strB p.key) := by
  have h := strB_list p.key
  unfold kb encStr
  rw [← h]

/-- The texts that a table's keys are, sorted. -/
def NamesOf (M : List UInt8 → Option Nat) (ss : List (List UInt8)) : Prop := ss.Pairwise (· ≤ ·) ∧ ss.Nodup ∧ ∀ x, x ∈ ss ↔ (M x).isSome = true

theorem NamesOf.one {M : List UInt8 → Option Nat} {ss ts : List (List UInt8)} (h : NamesOf M ss) (h' : NamesOf M ts) : ss = ts :=
  sorted_unique (· ≤ ·) (fun _ _ => List.le_antisymm) h.1 h'.1 h.2.1 h'.2.1 (fun x => by rw [h.2.2 x, h'.2.2 x])

theorem namesOf_sorted {M : List UInt8 → Option Nat} {ss : List (List UInt8)} (hn : ss.Nodup) (hm : ∀ x, x ∈ ss ↔ (M x).isSome = true) : NamesOf M (ss.mergeSort fun x y => decide (x ≤ y)) := by
  have tr : ∀ a b c : List UInt8, decide (a ≤ b) = true → decide (b ≤ c) = true → decide (a ≤ c) = true := fun a b c h1 h2 => by simp only [decide_eq_true_eq] at *; exact List.le_trans h1 h2
  have to : ∀ a b : List UInt8, (decide (a ≤ b) || decide (b ≤ a)) = true := fun a b => by simp only [Bool.or_eq_true, decide_eq_true_eq]; exact List.le_total a b
  have hp := List.mergeSort_perm ss fun x y => decide (x ≤ y)
  exact ⟨(List.pairwise_mergeSort tr to ss).imp (fun h => by simpa using h), hp.nodup_iff.2 hn, fun x => by rw [hp.mem_iff]; exact hm x⟩

/-- The keys at the places of a table: each of them once. -/
theorem names_of_vals {es : List Pe} {last : Int} {l : Nat} {vs : List Nat} (h : ValsOf (curU es last l) vs) : (vs.map fun i => kb (es.getD i pe0)).Nodup ∧ ∀ x, x ∈ (vs.map fun i => kb (es.getD i pe0)) ↔ (curU es last l x).isSome = true := by
  have hn := h.nodup (fun x y p h1 h2 => by rw [← curU_key h1, ← curU_key h2])
  refine ⟨List.pairwise_map.2 (hn.imp_of_mem ?_), fun x => ?_⟩
  · intro i j hi hj hne e
    obtain ⟨x, hx⟩ := (h.mem i).1 hi
    obtain ⟨y, hy⟩ := (h.mem j).1 hj
    rw [curU_key hx, curU_key hy] at e
    subst e
    rw [hx] at hy
    cases hy
    exact hne rfl
  · rw [List.mem_map, Option.isSome_iff_exists]
    constructor
    · rintro ⟨i, hi, rfl⟩
      obtain ⟨y, hy⟩ := (h.mem i).1 hi
      rw [curU_key hy]
      exact ⟨i, hy⟩
    · rintro ⟨i, hi⟩
      exact ⟨i, (h.mem i).2 ⟨x, hi⟩, curU_key hi⟩

/-- append(list, s), s laid in a block of its own. -/
theorem wpList_appS1 {ops : Array Oper} {rest : List Oper} {o : Oper} {a : Act} {Q : Exit → Act → World → Prop} {w : World} (hgd : o.guard = none) (s x : Operand)
    (ho : o.op = .call { callee := .builtin .append, args := #[s, x], argTypes := #[32, 32] })
    (base : Nat) (v : Value) (ss : List (List UInt8)) (n : Nat) (hn : ss.length = n) (hs : a.eval s = v) (hown : w.ownsRow base 9 1 v n (ss.map encStr)) (t : List UInt8)
    (B xc : Nat) (hx : a.eval x = .slice (some ⟨B, 0, none⟩) 1 xc) (h0 : w.cell? ⟨B, 0, none⟩ = some (encStr t)) (hb : n ≤ 1000000000) (hbase : base ≤ w.heap.size)
    (h : ∀ g' cap' w', w'.ownsRow base 9 1 (.slice (some ⟨g', 0, none⟩) (n + 1) cap') (n + 1) ((ss ++ [t]).map encStr) → w.grownBy w' v.ownBlock → wpList Try.prog ops Q rest (a.put o.dst (.slice (some ⟨g', 0, none⟩) (n + 1) cap')) w') :
    wpList Try.prog ops Q (o :: rest) a w := by
  obtain ⟨i, hi, hz, hsz, hby⟩ := info_parts infoStr
  subst hn
  refine wpList_append_lies w hgd s x 32 ho base 9 i _ 1 16 Try.underlying32 hi hz hsz hby rfl (by omega) v _ _ hs hown ⟨B, 0, none⟩ 1 xc [encStr t] hx rfl
    (fun j u hj => ?_) (by simp [Value.oneCell', encStr]) (by omega) (by unfold maxLen; omega) (by omega) hbase w.heap.size rfl ?_
  · match j, hj with
    | 0, hj => simp at hj; subst hj; exact h0
    | j + 1, hj => simp at hj
  · intro g' cap' w' hown' hg _ _
    refine h g' cap' w' ?_ hg
    rw [List.map_append]
    exact hown'

theorem litS (w : World) (p : Pe) (B : Nat) (hB : w.heap.size = B) : (w.alloc (.cells #[.string (strB p.key)] 9)).cell? ⟨B, 0, none⟩ = some (encStr (kb p)) := by
  subst hB
  rw [World.cell?_alloc_mark, enc_kb]
  rfl

/-- Texts handed back in a slice of the call's own: the keys that are there, sorted. -/
def RetN (w : World) (M : List UInt8 → Option Nat) (m : Nat) (e : Ending) (w' : World) : Prop :=
  ∃ (a : Option Addr) (c : Nat) (ss : List (List UInt8)), e = .returned (.slice a ss.length c) ∧ ss.length ≤ m ∧ NamesOf M ss ∧ w'.ownsRow w.heap.size 9 1 (.slice a ss.length c) ss.length (ss.map encStr) ∧ Below w.heap.size w w'

set_option maxRecDepth 100000 in
set_option maxHeartbeats 4000000 in
theorem names_any (a : Option Addr) (cap l : Nat) (es : List Pe) (last : Int) (w : World) (hl : es.length = l) (h : EnsAt w a cap es) (hkl : ∀ e ∈ es, e.key.length ≤ 1000000000) (h9 : l ≤ 100000) :
    Calls Try.prog 13 #[.slice a l cap, .int .i64 last] w (RetN w (curU es last l) l) := by
  have HE := Lib.hid h
  have HL := Lib.hid hl
  have HK := Lib.hid hkl
  clear h hl hkl
  go_enter Try.func13, Try.ntmps13
  go_wp2_with fail
  refine (current_any a cap l es last _ HL.out HE.out HK.out (by omega)).mono ?_
  rintro e w1 ⟨rfl, hm1, hb1⟩
  have HM1 := Lib.hid hm1
  have HB1 := Lib.hid hb1
  clear hm1 hb1
  go_wp2_with fail
  refine (contentS_any w.heap.size l _ w1 HM1.out (by omega)).mono ?_
  rintro e w2 ⟨a2, q2, vs, rfl, hvl, hvs, ho2, hb2⟩
  have HB2 := Lib.hid (HB1.out.trans (hb2.mono HB1.out.size))
  have HVS := Lib.hid (names_of_vals hvs)
  have HVB : Hid (∀ i ∈ vs, i < l) := fun i hi => by obtain ⟨x, hx⟩ := (hvs.mem i).1 hi; exact curU_lt hx
  have hp2 := pvals_wf vs (fun i hi => by have := HVB.out i hi; omega)
  have HI2 := Lib.hid (ints_own ho2 (pvals_len vs) hp2).1
  have HE2 := Lib.hid (HE.out.below HB2.out)
  clear hvs ho2 hb2 hp2 HM1 HB1 HE
  generalize hvn : vs.length = n2 at *
  have HVN := Lib.hid hvn
  clear hvn
  go_wp2
  go_loopw [5, 7, 13] (fun v _ i ws => ∃ (k c : Nat) (x : Option Addr) (ss : List (List UInt8)), k ≤ n2 ∧ i = .int .i64 k ∧ v = .slice x k c ∧ Hid (ss.length = k) ∧ Hid (ss = (vs.take k).map (fun i => kb (es.getD i pe0))) ∧ Hid (ws.ownsRow w2.heap.size 9 1 (.slice x k c) k (ss.map encStr)) ∧ Hid (Below w2.heap.size w2 ws)) (fun _ _ i _ => n2 - (intOf i).toNat)
  case atStart => exact ⟨0, 0, none, [], Nat.zero_le _, rfl, rfl, rfl, rfl, World.ownsRow_nil _ _ _ _, Below.refl _ _⟩
  case round =>
    obtain ⟨k, c, x, ss, hk, rfl, rfl, HX, HXM, HO, HB⟩ := hrel
    by_cases hlt : k < n2
    · obtain ⟨b0, off0, rfl, hc0⟩ := (HI2.out.below HB.out).cell k (by rw [pvals_len, HVN.out]; exact hlt)
      rw [pvals_at vs k (by rw [HVN.out]; exact hlt)] at hc0
      have HTM := Lib.hid (take_map (fun i => kb (es.getD i pe0)) vs k 0 (by rw [HVN.out]; exact hlt))
      have hil := HVB.out _ (getD_mem vs k 0 (by rw [HVN.out]; exact hlt))
      generalize vs.getD k 0 = i at *
      obtain ⟨b, off, loc, cp, rfl, hc⟩ := (HE2.out.below HB.out).el i (by rw [HL.out]; exact hil)
      have c0 := hc.c0
      have c1 := hc.c1
      have c2 := hc.c2
      have c3 := hc.c3
      have c4 := hc.c4
      have c5 := hc.c5
      have c6 := hc.c6
      have c7 := hc.c7
      clear hc
      have HKP := Lib.hid (HK.out _ (getD_mem es i pe0 (by rw [HL.out]; exact hil)))
      generalize es.getD i pe0 = p at *
      have HLI := Lib.hid (litS wr p wr.heap.size rfl)
      have HO1 := Lib.hid (HO.out.alloc (.cells #[.string (strB p.key)] 9))
      have HB1 := Lib.hid (HB.out.alloc HB.out.size (.cells #[.string (strB p.key)] 9))
      have hsz1 := HB1.out.size
      have hkb : k ≤ 1000000000 := by omega
      go_wp2_with (at_builtin; refine wpList_appS1 rfl (.tmp 17) (.tmp 23) rfl w2.heap.size _ ss k HX.out rfl HO1.out (kb p) wr.heap.size 1 rfl HLI.out hkb hsz1 ?_; intro g3 q3 w3 ho3 hg3)
      have HO3 := Lib.hid ho3
      have HB3 := Lib.hid (HB1.out.grown hg3 hsz1 (fun j hj => (World.ownsRow.lt HO.out j hj).1))
      have HX3 : Hid ((ss ++ [kb p]).length = k + 1) := by show _ = _; rw [List.length_append, HX.out]; rfl
      have HXM3 : Hid (ss ++ [kb p] = (vs.take (k + 1)).map (fun i => kb (es.getD i pe0))) := by show _ = _; rw [HTM.out, ← HXM.out]
      clear ho3 hg3 HO1 HB1
      go_roundw
      case rel => exact ⟨k + 1, q3, some ⟨g3, 0, none⟩, _, by omega, by go_num, rfl, HX3, HXM3, HO3, HB3⟩
      case measure => simp [intOf]; omega
    · obtain rfl : k = n2 := by omega
      have HSS : Hid (ss = vs.map (fun i => kb (es.getD i pe0))) := by show _ = _; rw [HXM.out, List.take_of_length_le (by rw [HVN.out]; omega)]
      have HNM := Lib.hid (namesOf_sorted (M := curU es last l) (ss := ss) (by rw [HSS.out]; exact HVS.out.1) (fun x => by rw [HSS.out]; exact HVS.out.2 x))
      have hkb : k ≤ 1000000000 := by omega
      go_wp2_with fail
      refine (sortS_own x k c w2.heap.size ss _ HX.out hkb HO.out).mono ?_
      rintro e w4 ⟨rfl, ho4, hg4⟩
      have HF : Hid (RetN w (curU es last l) l (.returned (.slice x k c)) w4) := by
        have e1 : (ss.mergeSort fun x y => decide (x ≤ y)).length = k := by rw [List.length_mergeSort]; exact HX.out
        refine ⟨x, c, _, by rw [e1], by rw [e1]; exact hvl, HNM.out, ?_, HB2.out.trans ((HB.out.grown hg4 HB.out.size (fun j hj => (World.ownsRow.lt HO.out j hj).1)).mono HB2.out.size)⟩
        rw [e1]
        exact owns_base ho4 HB2.out.size
      clear ho4 hg4 HO HB
      go_wp2
      go_ret
      exact HF.out

end Go.Proofs.Ytdifnipjmnbojaa
