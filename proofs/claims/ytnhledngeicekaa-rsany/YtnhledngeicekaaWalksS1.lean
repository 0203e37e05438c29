/-
  Layer 3: rs.allowed, rs.isPosition, the reference's May; the law's at, even, cut.
-/
import Derived.Test.YtnhledngeicekaaCode
import Derived.Test.YtnhledngeicekaaFrs
import Derived.Test.YtnhledngeicekaaSetMap
namespace Go.Proofs.Ytnhledngeicekaa
open Go.RowKit

/-- There is such a code. -/
def May (k m : Int) : Prop := 1 ≤ k ∧ 0 ≤ m ∧ k + m ≤ 255

theorem wf64 {x : Int} (h : (Lit.int .i64 x).wf = true) : -9223372036854775808 ≤ x ∧ x ≤ 9223372036854775807 := by
  simpa [Lit.wf, IntKind.min, IntKind.max, IntKind.signed, IntKind.bits] using h

theorem allowed_yes (k m : Int) (w : World) (h : May k m) :
    Calls Try.prog 24 #[.int .i64 k, .int .i64 m] w fun e w' => e = .returned (.bool true) ∧ w = w' := by
  obtain ⟨h1, h2, h3⟩ := h
  have d1 : decide (1 ≤ k) = true := by simp; omega
  have d2 : decide (0 ≤ m) = true := by simp; omega
  have d3 : decide (m ≤ 255 - k) = true := by simp; omega
  go_enter Try.func24, Try.ntmps24
  go_wp2
  go_ret
  exact ⟨rfl, rfl⟩

theorem allowed_no (k m : Int) (w : World) (hk : (Lit.int .i64 k).wf = true) (h : ¬ May k m) :
    Calls Try.prog 24 #[.int .i64 k, .int .i64 m] w fun e w' => e = .returned (.bool false) ∧ w = w' := by
  have hk' := wf64 hk
  clear hk
  by_cases h1 : 1 ≤ k
  · have d1 : decide (1 ≤ k) = true := by simp; omega
    by_cases h2 : 0 ≤ m
    · have d2 : decide (0 ≤ m) = true := by simp; omega
      have h3 : ¬ m ≤ 255 - k := fun h3 => h ⟨h1, h2, by omega⟩
      have d3 : decide (m ≤ 255 - k) = false := by simp; omega
      clear h
      go_enter Try.func24, Try.ntmps24
      go_wp2
      go_ret
      exact ⟨rfl, rfl⟩
    · have d2 : decide (0 ≤ m) = false := by simp; omega
      clear h
      go_enter Try.func24, Try.ntmps24
      go_wp2
      go_ret
      exact ⟨rfl, rfl⟩
  · have d1 : decide (1 ≤ k) = false := by simp; omega
    clear h
    go_enter Try.func24, Try.ntmps24
    go_wp2
    go_ret
    exact ⟨rfl, rfl⟩

theorem isPos_any (p : Int) (k m : Nat) (w : World) (hk : k ≤ 255) (hm : m ≤ 255) :
    Calls Try.prog 31 #[.int .i64 p, .int .i64 (k : Int), .int .i64 (m : Int)] w fun e w' => e = .returned (.bool (decide (0 ≤ p ∧ p < (k : Int) + (m : Int)))) ∧ w = w' := by
  by_cases h1 : 0 ≤ p
  · by_cases h2 : p < (k : Int) + (m : Int)
    · have h : decide (0 ≤ p ∧ p < (k : Int) + (m : Int)) = true := by simp; omega
      rw [h]
      clear h
      go_enter Try.func31, Try.ntmps31
      go_wp2
      go_ret
      exact ⟨rfl, rfl⟩
    · have h : decide (0 ≤ p ∧ p < (k : Int) + (m : Int)) = false := by simp; omega
      have d2 : decide (p < (k : Int) + (m : Int)) = false := by simp; omega
      rw [h]
      clear h
      go_enter Try.func31, Try.ntmps31
      go_wp2
      go_ret
      exact ⟨rfl, rfl⟩
  · have h : decide (0 ≤ p ∧ p < (k : Int) + (m : Int)) = false := by simp; omega
    have d1 : decide (0 ≤ p) = false := by simp; omega
    rw [h]
    clear h
    go_enter Try.func31, Try.ntmps31
    go_wp2
    go_ret
    exact ⟨rfl, rfl⟩


theorem may_yes (k m : Int) (w : World) (h : May k m) :
    Calls Try.prog 11 #[.int .i64 k, .int .i64 m] w fun e w' => e = .returned (.bool true) ∧ w = w' := by
  obtain ⟨h1, h2, h3⟩ := h
  have d1 : decide (1 ≤ k) = true := by simp; omega
  have d2 : decide (0 ≤ m) = true := by simp; omega
  have d3 : decide (k ≤ 255) = true := by simp; omega
  have d4 : decide (m ≤ 255) = true := by simp; omega
  have d5 : decide (k + m ≤ 255) = true := by simp; omega
  go_enter Try.func11, Try.ntmps11
  go_wp2
  go_ret
  exact ⟨rfl, rfl⟩

theorem may_no (k m : Int) (w : World) (h : ¬ May k m) :
    Calls Try.prog 11 #[.int .i64 k, .int .i64 m] w fun e w' => e = .returned (.bool false) ∧ w = w' := by
  by_cases h1 : 1 ≤ k
  · have d1 : decide (1 ≤ k) = true := by simp; omega
    by_cases h2 : 0 ≤ m
    · have d2 : decide (0 ≤ m) = true := by simp; omega
      have h3 : ¬ k + m ≤ 255 := fun h3 => h ⟨h1, h2, h3⟩
      clear h
      by_cases h4 : k ≤ 255
      · have d3 : decide (k ≤ 255) = true := by simp; omega
        by_cases h5 : m ≤ 255
        · have d4 : decide (m ≤ 255) = true := by simp; omega
          have d5 : decide (k + m ≤ 255) = false := by simp; omega
          go_enter Try.func11, Try.ntmps11
          go_wp2
          go_ret
          exact ⟨rfl, rfl⟩
        · have d4 : decide (m ≤ 255) = false := by simp; omega
          go_enter Try.func11, Try.ntmps11
          go_wp2
          go_ret
          exact ⟨rfl, rfl⟩
      · have d3 : decide (k ≤ 255) = false := by simp; omega
        go_enter Try.func11, Try.ntmps11
        go_wp2
        go_ret
        exact ⟨rfl, rfl⟩
    · have d2 : decide (0 ≤ m) = false := by simp; omega
      clear h
      go_enter Try.func11, Try.ntmps11
      go_wp2
      go_ret
      exact ⟨rfl, rfl⟩
  · have d1 : decide (1 ≤ k) = false := by simp; omega
    clear h
    go_enter Try.func11, Try.ntmps11
    go_wp2
    go_ret
    exact ⟨rfl, rfl⟩

/-- Rows by themselves: where each lies. -/
def gvals (fs : List Fr) : List Value := fs.map fun f => .slice f.loc f.data.length f.cap
theorem gvals_len (fs : List Fr) : (gvals fs).length = fs.length := by simp [gvals]
theorem gvals_app (fs gs : List Fr) : gvals (fs ++ gs) = gvals fs ++ gvals gs := by simp [gvals]
theorem gvals_at (fs : List Fr) (i : Nat) (h : i < fs.length) : (gvals fs)[i]? = some (.slice (fs.getD i fr0).loc (fs.getD i fr0).data.length (fs.getD i fr0).cap) := by
  simp [gvals, h]
theorem gvals_set (fs : List Fr) (i : Nat) (f : Fr) : (gvals fs).set i (.slice f.loc f.data.length f.cap) = gvals (fs.set i f) := by simp [gvals, List.map_set]

/-- The rows' bytes. -/
def dats (fs : List Fr) : List (List Nat) := fs.map (·.data)
theorem dats_len (fs : List Fr) : (dats fs).length = fs.length := by simp [dats]
theorem dats_row (fs : List Fr) (i : Nat) (h : i < fs.length) : (dats fs).getD i [] = (fs.getD i fr0).data := by simp [dats, h]

/-- A slice of rows of the call's own (block G); the rows lie in memory that was there in the world w0. -/
structure OldG (w0 w : World) (G C : Nat) (fs : List Fr) : Prop where
  own : w.ownsRow w0.heap.size 28 1 (.slice (some ⟨G, 0, none⟩) fs.length C) fs.length (gvals fs)
  seen : ∀ f ∈ fs, SeenAt w0 f.loc f.cap f.data

theorem OldG.lt {w0 w : World} {G C : Nat} {fs : List Fr} (h : OldG w0 w G C fs) : w0.heap.size ≤ G ∧ G < w.heap.size := World.ownsRow.lt h.own G rfl

theorem OldG.cell {w0 w : World} {G C : Nat} {fs : List Fr} (h : OldG w0 w G C fs) (i : Nat) (hi : i < fs.length) : w.cell? ⟨G, i, none⟩ = some (.slice (fs.getD i fr0).loc (fs.getD i fr0).data.length (fs.getD i fr0).cap) := by
  rw [World.ownsRow.cellAt h.own i (by omega)]; exact gvals_at fs i hi

theorem OldG.frozen {w0 w : World} {G C : Nat} {fs : List Fr} (h : OldG w0 w G C fs) (i : Nat) : w.frozen? ⟨G, i, none⟩ = false := World.ownsRow.frozenAt h.own i

theorem OldG.grid {w0 w : World} {G C : Nat} {fs : List Fr} (h : OldG w0 w G C fs) (hb : Below w0.heap.size w0 w) : GridAt w (some ⟨G, 0, none⟩) C (dats fs) := by
  obtain ⟨cur, hg, hnc, hcm, _, _⟩ := heap_of_owns h.own
  refine ⟨by rw [dats_len]; exact hnc, hcm, fun i hi => ?_⟩
  rw [dats_len] at hi
  rw [dats_row fs i hi]
  exact ⟨G, 0, _, rfl, by rw [Nat.zero_add]; exact h.cell i hi, ⟨_, _, rfl, (h.seen _ (getD_mem fs i fr0 hi)).below hb⟩⟩

theorem OldG.chg {gs : List Nat} {w0 w w' : World} {G C : Nat} {fs : List Fr} (h : OldG w0 w G C fs) (hb : Chg gs w w') (hG : G ∉ gs) : OldG w0 w' G C fs :=
  ⟨hb.owns h.own (by rintro k ⟨⟩; exact hG), h.seen⟩

/-- A store into it. -/
theorem OldG.stored {w0 w : World} {G C : Nat} {fs : List Fr} (h : OldG w0 w G C fs) (k : Nat) (f : Fr) (hf : SeenAt w0 f.loc f.cap f.data) :
    OldG w0 (w.setCell ⟨G, k, none⟩ (.slice f.loc f.data.length f.cap)) G C (fs.set k f) ∧ Chg [G] w (w.setCell ⟨G, k, none⟩ (.slice f.loc f.data.length f.cap)) := by
  have hs := World.ownsRow.stored h.own k (.slice f.loc f.data.length f.cap)
  rw [gvals_set] at hs
  refine ⟨⟨?_, fun e he => ?_⟩, Chg.of_grown hs.2⟩
  · rw [List.length_set]; exact hs.1
  · rcases List.mem_or_eq_of_mem_set he with he | rfl
    · exact h.seen e he
    · exact hf

theorem oldG_made (w0 w : World) (n : Nat) (hb : w0.heap.size ≤ w.heap.size) (hn : n ≤ maxLen) : OldG w0 (w.alloc (.cells (madeCells #[.slice none 0 0] n) 28)) w.heap.size n (List.replicate n fr0) := by
  have h := World.ownsRow_lit (base := w0.heap.size) (e := 28) (size := 1) w (madeCells #[.slice none 0 0] n) n hb hn (by rw [← Array.length_toList, toList_madeCells_one]; simp)
  rw [toList_madeCells_one] at h
  have e : gvals (List.replicate n fr0) = List.replicate n (.slice none 0 0) := by simp [gvals, fr0]
  refine ⟨?_, fun f hf => ?_⟩
  · rw [List.length_replicate, e]; exact h
  · rw [List.eq_of_mem_replicate hf]; exact SeenAt.nil (Nat.zero_le _)

/-- A grid is handed back; nothing that was there has turned. -/
def RetG (w : World) (n : Nat) (m : List (List Nat)) (e : Ending) (w' : World) : Prop :=
  m.length = n ∧ ∃ a cap, e = .returned (.slice a n cap) ∧ GridAt w' a cap m ∧ Below w.heap.size w w'

/-- The law's cut: at most k rows of at most twenty. -/
def cutM (m : List (List Nat)) (k : Nat) : List (List Nat) := (m.take k).map fun r => r.take 20
theorem cutM_len (m : List (List Nat)) (k : Nat) : (cutM m k).length = min k m.length := by simp [cutM]
theorem cutM_get (m : List (List Nat)) (k i : Nat) (h : i < k) : (cutM m k).getD i [] = (m.getD i []).take 20 := by
  unfold cutM
  rw [List.getD_eq_getElem?_getD, List.getElem?_map, List.getElem?_take_of_lt h, List.getD_eq_getElem?_getD]
  cases m[i]? <;> simp
theorem cutM_row (m : List (List Nat)) (k i : Nat) : ((cutM m k).getD i []).length ≤ 20 := by
  by_cases h : i < k
  · rw [cutM_get m k i h, List.length_take]; omega
  · rw [show (cutM m k).getD i [] = [] by rw [List.getD_eq_getElem?_getD, List.getElem?_eq_none (by rw [cutM_len]; omega)]; rfl]; simp

end Go.Proofs.Ytnhledngeicekaa
