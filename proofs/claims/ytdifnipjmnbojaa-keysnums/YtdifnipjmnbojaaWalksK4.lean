/-
  slices.Concat, Sort, Compact of numbers (places), and Sort of texts, over slices of the call's own.
-/
import Derived.Test.YtdifnipjmnbojaaWalksK3
import Derived.Test.YtdifnipjmnbojaaShelf
namespace Go.Proofs.Ytdifnipjmnbojaa
open Go.RowKit Go.Maps Go.Sort

/-! ## Sorted lists -/

theorem sorted_unique {α : Type} (le : α → α → Prop) (anti : ∀ a b, le a b → le b a → a = b) {l m : List α} (h1 : l.Pairwise le) (h2 : m.Pairwise le) (n1 : l.Nodup) (n2 : m.Nodup) (hm : ∀ x, x ∈ l ↔ x ∈ m) : l = m :=
  List.Perm.eq_of_pairwise (le := le) (fun a b _ _ => anti a b) h1 h2 ((List.perm_ext_iff_of_nodup n1 n2).2 hm)

theorem compact_strict (d : Array Int) (hs : ∀ i j, i ≤ j → j < d.size → d[i]! ≤ d[j]!) : ∀ m, m ≤ d.size → (Lib.compactUpTo d m).Pairwise (· < ·) ∧ (∀ x, x ∈ Lib.compactUpTo d m ↔ ∃ j, j < m ∧ d[j]! = x)
  | 0, _ => ⟨by simp [Lib.compactUpTo], fun x => by simp [Lib.compactUpTo]⟩
  | m + 1, hm => by
    obtain ⟨h1, h2⟩ := compact_strict d hs m (by omega)
    rw [Lib.compactUpTo_succ]
    cases hk : Lib.keeps d m with
    | true =>
      rw [if_pos rfl]
      have hlt : ∀ x ∈ Lib.compactUpTo d m, x < d[m]! := fun x hx => by
        obtain ⟨j, hj, rfl⟩ := (h2 x).1 hx
        have hm0 : ¬ m = 0 := by omega
        have hne : d[m]! ≠ d[m - 1]! := by
          intro e
          rw [Lib.keeps_neg (by omega) e] at hk
          cases hk
        have a1 := hs j (m - 1) (by omega) (by omega)
        have a2 := hs (m - 1) m (by omega) (by omega)
        omega
      refine ⟨List.pairwise_append.2 ⟨h1, by simp, fun a ha b hb => by rw [List.mem_singleton.mp hb]; exact hlt a ha⟩, fun x => ?_⟩
      rw [List.mem_append, h2 x, List.mem_singleton]
      constructor
      · rintro (⟨j, hj, e⟩ | rfl)
        · exact ⟨j, by omega, e⟩
        · exact ⟨m, by omega, rfl⟩
      · rintro ⟨j, hj, e⟩
        by_cases e' : j = m
        · right; rw [← e, e']
        · left; exact ⟨j, by omega, e⟩
    | false =>
      rw [if_neg (by simp), List.append_nil]
      refine ⟨h1, fun x => ?_⟩
      rw [h2 x]
      have hm0 : ¬ m = 0 := by
        intro e
        rw [Lib.keeps_lt_one d m (by omega)] at hk
        cases hk
      have he : d[m]! = d[m - 1]! := by
        by_cases e : d[m]! = d[m - 1]!
        · exact e
        · rw [Lib.keeps_pos e] at hk; cases hk
      constructor
      · rintro ⟨j, hj, e⟩; exact ⟨j, by omega, e⟩
      · rintro ⟨j, hj, e⟩
        by_cases e' : j = m
        · exact ⟨m - 1, by omega, by rw [← he, ← e', e]⟩
        · exact ⟨j, by omega, e⟩

/-- Places sorted, one of each: just those. -/
theorem compact_places (vs ps : List Nat) (hp : ps.Pairwise (· < ·)) (hm : ∀ i, i ∈ vs ↔ i ∈ ps) : Lib.compact ((pvals vs).mergeSort fun x y => decide (x ≤ y)) = pvals ps := by
  have tr : ∀ a b c : Int, decide (a ≤ b) = true → decide (b ≤ c) = true → decide (a ≤ c) = true := fun a b c h1 h2 => by simp at *; omega
  have to : ∀ a b : Int, (decide (a ≤ b) || decide (b ≤ a)) = true := fun a b => by simp; omega
  have hs := List.pairwise_mergeSort tr to (pvals vs)
  have hmem : ∀ x, x ∈ ((pvals vs).mergeSort fun x y => decide (x ≤ y)) ↔ x ∈ pvals vs := fun x => (List.mergeSort_perm (pvals vs) _).mem_iff
  generalize (pvals vs).mergeSort (fun x y => decide (x ≤ y)) = zs at *
  have hget : ∀ i, i < zs.length → zs.toArray[i]! = zs.getD i 0 := fun i hi => by
    rw [getElem!_pos _ i (by simpa using hi), List.getD_eq_getElem?_getD, List.getElem?_eq_getElem hi]; simp
  have hc := compact_strict zs.toArray (fun i j hij hj => by
    have hj' : j < zs.length := by simpa using hj
    rw [hget i (by omega), hget j hj']
    rcases Nat.lt_or_ge i j with h | h
    · have := (List.pairwise_iff_getElem.1 hs) i j (by omega) hj' h
      simp only [decide_eq_true_eq] at this
      rw [List.getD_eq_getElem?_getD, List.getElem?_eq_getElem (by omega), List.getD_eq_getElem?_getD, List.getElem?_eq_getElem hj']
      exact this
    · obtain rfl : i = j := by omega
      exact Int.le_refl _) zs.length (by simp)
  have e : Lib.compact zs = Lib.compactUpTo zs.toArray zs.length := rfl
  rw [e]
  have hps : (pvals ps).Pairwise (· < ·) := by
    unfold pvals
    refine List.pairwise_map.2 (hp.imp ?_)
    intro a b h
    omega
  refine sorted_unique (· ≤ ·) (fun a b h1 h2 => by omega) (hc.1.imp (fun h => by omega)) (hps.imp (fun h => by omega)) (hc.1.imp (fun h => by omega)) (hps.imp (fun h => by omega)) (fun x => ?_)
  rw [hc.2 x]
  have h1 : (∃ j, j < zs.length ∧ zs.toArray[j]! = x) ↔ x ∈ zs := by
    constructor
    · rintro ⟨j, hj, rfl⟩
      rw [hget j hj]
      exact getD_mem zs j 0 hj
    · intro hx
      obtain ⟨j, hj, rfl⟩ := List.mem_iff_getElem.mp hx
      exact ⟨j, hj, by rw [hget j hj, List.getD_eq_getElem?_getD, List.getElem?_eq_getElem hj]; rfl⟩
  rw [h1, hmem x]
  unfold pvals
  simp only [List.mem_map]
  constructor
  · rintro ⟨i, hi, rfl⟩; exact ⟨i, (hm i).1 hi, rfl⟩
  · rintro ⟨i, hi, rfl⟩; exact ⟨i, (hm i).2 hi, rfl⟩

/-! ## A sorted row of the call's own -/

section
variable {α : Type} [Inhabited α] (enc : α → Value)

theorem holds_own {w : World} {g : Nat} {cur : Array Value} {e : TypeId} {ss : List α} (hb : w.heap[g]? = some (.cells cur e (0, 0))) (ht : cur.toList.take ss.length = ss.map enc) : Holds enc w g 0 ss.toArray := by
  intro j hj
  have hj' : j < ss.length := by simpa using hj
  refine ⟨?_, by simp [World.frozen?, hb]⟩
  have h1 : (cur.toList.take ss.length)[j]? = (ss.map enc)[j]? := by rw [ht]
  rw [List.getElem?_take_of_lt hj'] at h1
  simp only [World.cell?, hb, Nat.zero_add]
  simp only [Option.isSome_none, Bool.false_eq_true, if_false]
  rw [← Array.getElem?_toList, h1]
  simp [hj']

theorem heap_put {w : World} {g n : Nat} {os : Array Obj} {cur : Array Value} {e : TypeId} {fr : Nat × Nat} (d : Array α) (hb : w.heap[g]? = some (.cells cur e fr)) :
    (grow (putRow enc (Sort.ahead w n) g 0 d) os).heap[g]? = some (.cells (putCells enc 0 d cur) e fr) := by
  have hg : g < w.heap.size := (Array.getElem?_eq_some_iff.1 hb).1
  rw [heap_grow_old _ _ (by simpa using hg)]
  simp [putRow, mapBlock, Sort.ahead, Array.getElem?_modify, hb, onCells]

theorem grown_put {w : World} {g n : Nat} {os : Array Obj} (d : Array α) : w.grownBy (grow (putRow enc (Sort.ahead w n) g 0 d) os) (some g) := by
  refine ⟨rfl, rfl, rfl, by simp, fun k hk hne => ?_⟩
  rw [heap_grow_old _ _ (by simpa using hk)]
  have : g ≠ k := fun e => hne (by rw [e])
  simp [putRow, mapBlock, Sort.ahead, Array.getElem?_modify, this]

theorem take_put (cur : Array Value) (ts : List α) (h : ts.length ≤ cur.size) : (putCells enc 0 ts.toArray cur).toList.take ts.length = ts.map enc := by
  apply List.ext_getElem?
  intro j
  by_cases hj : j < ts.length
  · rw [List.getElem?_take_of_lt hj, Array.getElem?_toList]
    simp [putCells, hj, show j < cur.size by omega]
  · rw [List.getElem?_take_eq_none (by omega), List.getElem?_eq_none (by simp; omega)]

theorem own_put {w : World} {base g cap n : Nat} {e : TypeId} {os : Array Obj} {cur : Array Value} {ss ts : List α} (hl : ts.length = ss.length) (hbase : base ≤ g) (hb : w.heap[g]? = some (.cells cur e (0, 0)))
    (h1 : ss.length ≤ cap) (h2 : cap ≤ maxLen) (h3 : cur.size = cap * 1) :
    (grow (putRow enc (Sort.ahead w n) g 0 ts.toArray) os).ownsRow base e 1 (.slice (some ⟨g, 0, none⟩) ss.length cap) ss.length (ts.map enc) :=
  ⟨by simp [hl], .inr ⟨g, cap, _, rfl, hbase, heap_put enc _ hb, h1, h2, by simp [putCells, h3], by rw [Nat.mul_one, ← hl]; exact take_put enc cur ts (by omega)⟩⟩

end

theorem sortI_own (a : Option Addr) (n c base : Nat) (zs : List Int) (w : World) (hn : zs.length = n) (h9 : n ≤ 1000000000) (h : w.ownsRow base 3 1 (.slice a n c) n (zs.map (Value.int .i64))) :
    Calls Try.prog 30 #[.slice a n c] w fun e w' => e = .returned (.tuple #[]) ∧ w'.ownsRow base 3 1 (.slice a n c) n ((zs.mergeSort fun x y => decide (x ≤ y)).map (Value.int .i64)) ∧ w.grownBy w' (Value.ownBlock (.slice a n c)) := by
  rcases h.2 with ⟨hnil, h0⟩ | ⟨g, cap, cur, hv, hbase, hb, h1, h2, h3, h4⟩
  · cases hnil
    have e0 : zs = [] := List.length_eq_zero_iff.mp (by omega)
    subst e0
    refine (Try.slices_Sort_int_none none 0 w).mono ?_
    rintro e w' ⟨rfl, rfl⟩
    exact ⟨rfl, by simpa using World.ownsRow_nil _ _ _ _, ⟨rfl, rfl, rfl, Nat.le_refl _, fun i _ _ => rfl⟩⟩
  · cases hv
    subst hn
    refine (Try.slices_Sort_int g 0 c zs w (holds_own (Value.int .i64) hb (by simpa using h4)) (Array.getElem?_eq_some_iff.1 hb).1 (by omega)).mono ?_
    rintro e w' ⟨rfl, m, os, rfl⟩
    exact ⟨rfl, own_put (Value.int .i64) (by simp) hbase hb h1 h2 h3, grown_put (Value.int .i64) _⟩

theorem sortS_own (a : Option Addr) (n c base : Nat) (ss : List (List UInt8)) (w : World) (hn : ss.length = n) (h9 : n ≤ 1000000000) (h : w.ownsRow base 9 1 (.slice a n c) n (ss.map encStr)) :
    Calls Try.prog 25 #[.slice a n c] w fun e w' => e = .returned (.tuple #[]) ∧ w'.ownsRow base 9 1 (.slice a n c) n ((ss.mergeSort fun x y => decide (x ≤ y)).map encStr) ∧ w.grownBy w' (Value.ownBlock (.slice a n c)) := by
  rcases h.2 with ⟨hnil, h0⟩ | ⟨g, cap, cur, hv, hbase, hb, h1, h2, h3, h4⟩
  · cases hnil
    have e0 : ss = [] := List.length_eq_zero_iff.mp (by omega)
    subst e0
    refine (Try.slices_Sort_string_none none 0 w).mono ?_
    rintro e w' ⟨rfl, rfl⟩
    exact ⟨rfl, by simpa using World.ownsRow_nil _ _ _ _, ⟨rfl, rfl, rfl, Nat.le_refl _, fun i _ _ => rfl⟩⟩
  · cases hv
    subst hn
    refine (Try.slices_Sort_string g 0 c ss w (holds_own encStr hb (by simpa using h4)) (Array.getElem?_eq_some_iff.1 hb).1 (by omega)).mono ?_
    rintro e w' ⟨rfl, m, os, rfl⟩
    exact ⟨rfl, own_put encStr (by simp) hbase hb h1 h2 h3, grown_put encStr _⟩

/-- slices.Compact: what comes back is read so; only the row itself has turned. -/
theorem compactI_own (a : Option Addr) (n c base : Nat) (zs : List Int) (w : World) (hn : zs.length = n) (hw : ∀ z ∈ zs, I64 z) (h9 : n ≤ 1000000000) (h : w.ownsRow base 3 1 (.slice a n c) n (zs.map (Value.int .i64))) :
    Calls Try.prog 31 #[.slice a n c] w fun e w' => ∃ m, e = .returned (.slice a m c) ∧ (Lib.compact zs).length = m ∧ IntsAt w' a c (Lib.compact zs) ∧ w.grownBy w' (Value.ownBlock (.slice a n c)) := by
  rcases h.2 with ⟨hnil, h0⟩ | ⟨g, cap, cur, hv, hbase, hb, h1, h2, h3, h4⟩
  · cases hnil
    have e0 : zs = [] := List.length_eq_zero_iff.mp (by omega)
    subst e0
    refine (Try.slices_Compact_int_empty none 0 w).mono ?_
    rintro e w' ⟨rfl, rfl⟩
    exact ⟨0, rfl, rfl, IntsAt.nil (Nat.zero_le _), ⟨rfl, rfl, rfl, Nat.le_refl _, fun i _ _ => rfl⟩⟩
  · cases hv
    subst hn
    have hle : (Lib.compact zs).length ≤ zs.length := by
      unfold Lib.compact Lib.compactUpTo
      rw [List.length_map]
      exact Nat.le_trans (List.length_filter_le _ _) (by simp)
    have hsub : ∀ z ∈ Lib.compact zs, z ∈ zs := fun z hz => by
      unfold Lib.compact Lib.compactUpTo at hz
      obtain ⟨j, hj, rfl⟩ := List.mem_map.mp hz
      have hj' := List.mem_range.mp (List.mem_filter.mp hj).1
      rw [getElem!_pos _ j (by simpa using hj')]
      simp
    refine (Try.slices_Compact_int g 0 c zs w (holds_own (Value.int .i64) hb (by simpa using h4)) (by omega) h1).mono ?_
    rintro e w' ⟨rfl, q, rfl⟩
    generalize Lib.compact zs = ts at *
    have hl : (ts ++ List.replicate (zs.length - ts.length) 0).length = zs.length := by simp; omega
    have ho := own_put (Value.int .i64) (n := q) (os := #[]) hl hbase hb h1 h2 h3
    rw [grow_empty] at ho
    have hg := grown_put (Value.int .i64) (w := w) (g := g) (n := q) (os := #[]) (ts ++ List.replicate (zs.length - ts.length) 0).toArray
    rw [grow_empty] at hg
    refine ⟨ts.length, rfl, rfl, ⟨by omega, h2, fun i => ?_, fun i hi => ⟨g, 0, rfl, ?_⟩⟩, hg⟩
    · rw [List.getD_eq_getElem?_getD]
      by_cases hi : i < ts.length
      · rw [List.getElem?_eq_getElem hi]; exact hw _ (hsub _ (List.getElem_mem hi))
      · rw [List.getElem?_eq_none (by omega)]; simp
    · rw [Nat.zero_add, World.ownsRow.cellAt ho i (by omega), List.getElem?_map, List.getElem?_append_left hi, List.getD_eq_getElem?_getD, List.getElem?_eq_getElem hi]
      rfl

end Go.Proofs.Ytdifnipjmnbojaa
