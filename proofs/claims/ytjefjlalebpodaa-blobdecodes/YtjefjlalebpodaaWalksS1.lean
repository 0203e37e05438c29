/-
  Layer 3: rs.allowed, rs.isPosition, the reference's May; the law's at, even, cut.
  Layer 3: the law's at, even, cut.
  Layer 3: the reference's At (Lagrange).
  Layer 3: rs.codeMatrix, rs.combined.
-/
import Derived.Test.YtjefjlalebpodaaCode
import Derived.Test.YtjefjlalebpodaaFrs
import Derived.Test.YtjefjlalebpodaaSetMap
namespace Go.Proofs.Ytjefjlalebpodaa
open Go.RowKit

/-- There is such a code. -/
def May (k m : Int) : Prop := 1 ≤ k ∧ 0 ≤ m ∧ k + m ≤ 255

theorem wf64 {x : Int} (h : (Lit.int .i64 x).wf = true) : -9223372036854775808 ≤ x ∧ x ≤ 9223372036854775807 := by
  simpa [Lit.wf, IntKind.min, IntKind.max, IntKind.signed, IntKind.bits] using h

theorem allowed_yes (k m : Int) (w : World) (h : May k m) :
    Calls Try.prog 52 #[.int .i64 k, .int .i64 m] w fun e w' => e = .returned (.bool true) ∧ w = w' := by
  obtain ⟨h1, h2, h3⟩ := h
  have d1 : decide (1 ≤ k) = true := by simp; omega
  have d2 : decide (0 ≤ m) = true := by simp; omega
  have d3 : decide (m ≤ 255 - k) = true := by simp; omega
  go_enter Try.func52, Try.ntmps52
  go_wp2
  go_ret
  exact ⟨rfl, rfl⟩

theorem allowed_no (k m : Int) (w : World) (hk : (Lit.int .i64 k).wf = true) (h : ¬ May k m) :
    Calls Try.prog 52 #[.int .i64 k, .int .i64 m] w fun e w' => e = .returned (.bool false) ∧ w = w' := by
  have hk' := wf64 hk
  clear hk
  by_cases h1 : 1 ≤ k
  · have d1 : decide (1 ≤ k) = true := by simp; omega
    by_cases h2 : 0 ≤ m
    · have d2 : decide (0 ≤ m) = true := by simp; omega
      have h3 : ¬ m ≤ 255 - k := fun h3 => h ⟨h1, h2, by omega⟩
      have d3 : decide (m ≤ 255 - k) = false := by simp; omega
      clear h
      go_enter Try.func52, Try.ntmps52
      go_wp2
      go_ret
      exact ⟨rfl, rfl⟩
    · have d2 : decide (0 ≤ m) = false := by simp; omega
      clear h
      go_enter Try.func52, Try.ntmps52
      go_wp2
      go_ret
      exact ⟨rfl, rfl⟩
  · have d1 : decide (1 ≤ k) = false := by simp; omega
    clear h
    go_enter Try.func52, Try.ntmps52
    go_wp2
    go_ret
    exact ⟨rfl, rfl⟩

theorem isPos_any (p : Int) (k m : Nat) (w : World) (hk : k ≤ 255) (hm : m ≤ 255) :
    Calls Try.prog 64 #[.int .i64 p, .int .i64 (k : Int), .int .i64 (m : Int)] w fun e w' => e = .returned (.bool (decide (0 ≤ p ∧ p < (k : Int) + (m : Int)))) ∧ w = w' := by
  by_cases h1 : 0 ≤ p
  · by_cases h2 : p < (k : Int) + (m : Int)
    · have h : decide (0 ≤ p ∧ p < (k : Int) + (m : Int)) = true := by simp; omega
      rw [h]
      clear h
      go_enter Try.func64, Try.ntmps64
      go_wp2
      go_ret
      exact ⟨rfl, rfl⟩
    · have h : decide (0 ≤ p ∧ p < (k : Int) + (m : Int)) = false := by simp; omega
      have d2 : decide (p < (k : Int) + (m : Int)) = false := by simp; omega
      rw [h]
      clear h
      go_enter Try.func64, Try.ntmps64
      go_wp2
      go_ret
      exact ⟨rfl, rfl⟩
  · have h : decide (0 ≤ p ∧ p < (k : Int) + (m : Int)) = false := by simp; omega
    have d1 : decide (0 ≤ p) = false := by simp; omega
    rw [h]
    clear h
    go_enter Try.func64, Try.ntmps64
    go_wp2
    go_ret
    exact ⟨rfl, rfl⟩


theorem may_yes (k m : Int) (w : World) (h : May k m) :
    Calls Try.prog 26 #[.int .i64 k, .int .i64 m] w fun e w' => e = .returned (.bool true) ∧ w = w' := by
  obtain ⟨h1, h2, h3⟩ := h
  have d1 : decide (1 ≤ k) = true := by simp; omega
  have d2 : decide (0 ≤ m) = true := by simp; omega
  have d3 : decide (k ≤ 255) = true := by simp; omega
  have d4 : decide (m ≤ 255) = true := by simp; omega
  have d5 : decide (k + m ≤ 255) = true := by simp; omega
  go_enter Try.func26, Try.ntmps26
  go_wp2
  go_ret
  exact ⟨rfl, rfl⟩

theorem may_no (k m : Int) (w : World) (h : ¬ May k m) :
    Calls Try.prog 26 #[.int .i64 k, .int .i64 m] w fun e w' => e = .returned (.bool false) ∧ w = w' := by
  by_cases h1 : 1 ≤ k
  · have d1 : decide (1 ≤ k) = true := by simp; omega
    by_cases h2 : 0 ≤ m
    · have d2 : decide (0 ≤ m) = true := by simp; omega
      have h3 : ¬ k + m ≤ 255 := fun h3 => h ⟨h1, h2, h3⟩
      clear h
      by_cases h4 : k ≤ 255
      · have d3 : decide (k ≤ 255) = true := by simp; omega
        by_cases h5 : m ≤ 255
        · have d4 : decide (m ≤ 255) = true := by simp; omega
          have d5 : decide (k + m ≤ 255) = false := by simp; omega
          go_enter Try.func26, Try.ntmps26
          go_wp2
          go_ret
          exact ⟨rfl, rfl⟩
        · have d4 : decide (m ≤ 255) = false := by simp; omega
          go_enter Try.func26, Try.ntmps26
          go_wp2
          go_ret
          exact ⟨rfl, rfl⟩
      · have d3 : decide (k ≤ 255) = false := by simp; omega
        go_enter Try.func26, Try.ntmps26
        go_wp2
        go_ret
        exact ⟨rfl, rfl⟩
    · have d2 : decide (0 ≤ m) = false := by simp; omega
      clear h
      go_enter Try.func26, Try.ntmps26
      go_wp2
      go_ret
      exact ⟨rfl, rfl⟩
  · have d1 : decide (1 ≤ k) = false := by simp; omega
    clear h
    go_enter Try.func26, Try.ntmps26
    go_wp2
    go_ret
    exact ⟨rfl, rfl⟩

/-- Rows by themselves: where each lies. -/
def gvals (fs : List Fr) : List Value := fs.map fun f => .slice f.loc f.data.length f.cap
theorem gvals_len (fs : List Fr) : (gvals fs).length = fs.length := by simp [gvals]
theorem gvals_app (fs gs : List Fr) : gvals (fs ++ gs) = gvals fs ++ gvals gs := by simp [gvals]
theorem gvals_at (fs : List Fr) (i : Nat) (h : i < fs.length) : (gvals fs)[i]? = some (.slice (fs.getD i fr0).loc (fs.getD i fr0).data.length (fs.getD i fr0).cap) := by
  simp [gvals, h]
theorem gvals_set (fs : List Fr) (i : Nat) (f : Fr) : (gvals fs).set i (.slice f.loc f.data.length f.cap) = gvals (fs.set i f) := by simp [gvals, List.map_set]

/-- The rows' bytes. -/
def dats (fs : List Fr) : List (List Nat) := fs.map (·.data)
theorem dats_len (fs : List Fr) : (dats fs).length = fs.length := by simp [dats]
theorem dats_row (fs : List Fr) (i : Nat) (h : i < fs.length) : (dats fs).getD i [] = (fs.getD i fr0).data := by simp [dats, h]

/-- A slice of rows of the call's own (block G); the rows lie in memory that was there in the world w0. -/
structure OldG (w0 w : World) (G C : Nat) (fs : List Fr) : Prop where
  own : w.ownsRow w0.heap.size 22 1 (.slice (some ⟨G, 0, none⟩) fs.length C) fs.length (gvals fs)
  seen : ∀ f ∈ fs, SeenAt w0 f.loc f.cap f.data

theorem OldG.lt {w0 w : World} {G C : Nat} {fs : List Fr} (h : OldG w0 w G C fs) : w0.heap.size ≤ G ∧ G < w.heap.size := World.ownsRow.lt h.own G rfl

theorem OldG.cell {w0 w : World} {G C : Nat} {fs : List Fr} (h : OldG w0 w G C fs) (i : Nat) (hi : i < fs.length) : w.cell? ⟨G, i, none⟩ = some (.slice (fs.getD i fr0).loc (fs.getD i fr0).data.length (fs.getD i fr0).cap) := by
  rw [World.ownsRow.cellAt h.own i (by omega)]; exact gvals_at fs i hi

theorem OldG.frozen {w0 w : World} {G C : Nat} {fs : List Fr} (h : OldG w0 w G C fs) (i : Nat) : w.frozen? ⟨G, i, none⟩ = false := World.ownsRow.frozenAt h.own i

theorem OldG.grid {w0 w : World} {G C : Nat} {fs : List Fr} (h : OldG w0 w G C fs) (hb : Below w0.heap.size w0 w) : GridAt w (some ⟨G, 0, none⟩) C (dats fs) := by
  obtain ⟨cur, hg, hnc, hcm, _, _⟩ := heap_of_owns h.own
  refine ⟨by rw [dats_len]; exact hnc, hcm, fun i hi => ?_⟩
  rw [dats_len] at hi
  rw [dats_row fs i hi]
  exact ⟨G, 0, _, rfl, by rw [Nat.zero_add]; exact h.cell i hi, ⟨_, _, rfl, (h.seen _ (getD_mem fs i fr0 hi)).below hb⟩⟩

theorem OldG.chg {gs : List Nat} {w0 w w' : World} {G C : Nat} {fs : List Fr} (h : OldG w0 w G C fs) (hb : Chg gs w w') (hG : G ∉ gs) : OldG w0 w' G C fs :=
  ⟨hb.owns h.own (by rintro k ⟨⟩; exact hG), h.seen⟩

/-- A store into it. -/
theorem OldG.stored {w0 w : World} {G C : Nat} {fs : List Fr} (h : OldG w0 w G C fs) (k : Nat) (f : Fr) (hf : SeenAt w0 f.loc f.cap f.data) :
    OldG w0 (w.setCell ⟨G, k, none⟩ (.slice f.loc f.data.length f.cap)) G C (fs.set k f) ∧ Chg [G] w (w.setCell ⟨G, k, none⟩ (.slice f.loc f.data.length f.cap)) := by
  have hs := World.ownsRow.stored h.own k (.slice f.loc f.data.length f.cap)
  rw [gvals_set] at hs
  refine ⟨⟨?_, fun e he => ?_⟩, Chg.of_grown hs.2⟩
  · rw [List.length_set]; exact hs.1
  · rcases List.mem_or_eq_of_mem_set he with he | rfl
    · exact h.seen e he
    · exact hf

theorem oldG_made (w0 w : World) (n : Nat) (hb : w0.heap.size ≤ w.heap.size) (hn : n ≤ maxLen) : OldG w0 (w.alloc (.cells (madeCells #[.slice none 0 0] n) 22)) w.heap.size n (List.replicate n fr0) := by
  have h := World.ownsRow_lit (base := w0.heap.size) (e := 22) (size := 1) w (madeCells #[.slice none 0 0] n) n hb hn (by rw [← Array.length_toList, toList_madeCells_one]; simp)
  rw [toList_madeCells_one] at h
  have e : gvals (List.replicate n fr0) = List.replicate n (.slice none 0 0) := by simp [gvals, fr0]
  refine ⟨?_, fun f hf => ?_⟩
  · rw [List.length_replicate, e]; exact h
  · rw [List.eq_of_mem_replicate hf]; exact SeenAt.nil (Nat.zero_le _)

/-- A grid is handed back; nothing that was there has turned. -/
def RetG (w : World) (n : Nat) (m : List (List Nat)) (e : Ending) (w' : World) : Prop :=
  m.length = n ∧ ∃ a cap, e = .returned (.slice a n cap) ∧ GridAt w' a cap m ∧ Below w.heap.size w w'

/-- The law's cut: at most k rows of at most twenty. -/
def cutM (m : List (List Nat)) (k : Nat) : List (List Nat) := (m.take k).map fun r => r.take 20
theorem cutM_len (m : List (List Nat)) (k : Nat) : (cutM m k).length = min k m.length := by simp [cutM]
theorem cutM_get (m : List (List Nat)) (k i : Nat) (h : i < k) : (cutM m k).getD i [] = (m.getD i []).take 20 := by
  unfold cutM
  rw [List.getD_eq_getElem?_getD, List.getElem?_map, List.getElem?_take_of_lt h, List.getD_eq_getElem?_getD]
  cases m[i]? <;> simp
theorem cutM_row (m : List (List Nat)) (k i : Nat) : ((cutM m k).getD i []).length ≤ 20 := by
  by_cases h : i < k
  · rw [cutM_get m k i h, List.length_take]; omega
  · rw [show (cutM m k).getD i [] = [] by rw [List.getD_eq_getElem?_getD, List.getElem?_eq_none (by rw [cutM_len]; omega)]; rfl]; simp

end Go.Proofs.Ytjefjlalebpodaa

namespace Go.Proofs.Ytjefjlalebpodaa
open Go.RowKit

/-- All rows as long as the first one. -/
def Ev (m : List (List Nat)) : Prop := ∀ i, i < m.length → (m.getD i []).length = (m.getD 0 []).length

/-- cut's rows, the first i done. -/
def ct2 (m : List (List Nat)) (i : Nat) : List (List Nat) := (m.take i).map fun r => r.take 20
theorem ct2_len (m : List (List Nat)) (i : Nat) (h : i ≤ m.length) : (ct2 m i).length = i := by simp [ct2]; omega
theorem ct2_succ (m : List (List Nat)) (i : Nat) (h : i < m.length) : ct2 m (i + 1) = ct2 m i ++ [(m.getD i []).take 20] := by
  unfold ct2
  rw [List.take_succ_eq_append_getElem h, List.map_append, List.getD_eq_getElem?_getD, List.getElem?_eq_getElem h]
  rfl

theorem SeenAt.far {w : World} {a : Option Addr} {cap : Nat} {ps : List Nat} (h : SeenAt w a cap ps) : ∃ a', SeenAt w a' cap ps ∧ (∀ b off, a' = some ⟨b, off, none⟩ → b < w.heap.size) := by
  by_cases h0 : ps = []
  · subst h0
    exact ⟨none, SeenAt.nil h.max, by simp⟩
  · have hp : 0 < ps.length := by cases ps with | nil => exact absurd rfl h0 | cons c p => simp
    exact ⟨a, h, h.block_lt hp⟩

/-- While cut goes on: the rows so far; each lies in old memory. -/
structure Cuts (w0 w : World) (G C : Nat) (m : List (List Nat)) (i : Nat) : Prop where
  own : ∃ vs : List Value, w.ownsRow w0.heap.size 22 1 (.slice (some ⟨G, 0, none⟩) i C) i vs ∧ vs.length = i ∧ ∀ j, j < i → ∃ ra rc, vs[j]? = some (.slice ra ((m.getD j []).take 20).length rc) ∧ SeenAt w0 ra rc ((m.getD j []).take 20)

theorem Cuts.lt {w0 w : World} {G C i : Nat} {m : List (List Nat)} (h : Cuts w0 w G C m i) : w0.heap.size ≤ G := by
  obtain ⟨vs, h1, _⟩ := h.own
  exact (World.ownsRow.lt h1 G rfl).1

theorem cuts_none (w : World) (m : List (List Nat)) : Cuts w (w.alloc (.cells #[] 22)) w.heap.size 0 m 0 :=
  ⟨[], World.ownsRow_lit (base := w.heap.size) (e := 22) (size := 1) w #[] 0 (Nat.le_refl _) (by unfold maxLen; omega) rfl, rfl, fun j hj => by omega⟩

theorem Cuts.grid {w0 w : World} {G C i : Nat} {m : List (List Nat)} (h : Cuts w0 w G C m i) (hi : i ≤ m.length) (hb : Below w0.heap.size w0 w) : GridAt w (some ⟨G, 0, none⟩) C (ct2 m i) := by
  obtain ⟨vs, h1, h2, h3⟩ := h.own
  obtain ⟨cur, hg, hnc, hcm, _, _⟩ := heap_of_owns h1
  refine ⟨by rw [ct2_len m i hi]; exact hnc, hcm, fun j hj => ?_⟩
  rw [ct2_len m i hi] at hj
  obtain ⟨ra, rc, e, hs⟩ := h3 j hj
  have er : (ct2 m i).getD j [] = (m.getD j []).take 20 := by
    unfold ct2
    rw [List.getD_eq_getElem?_getD, List.getElem?_map, List.getElem?_take_of_lt hj, List.getD_eq_getElem?_getD]
    cases m[j]? <;> simp
  rw [er]
  exact ⟨G, 0, _, rfl, by rw [Nat.zero_add, World.ownsRow.cellAt h1 j (by omega)]; exact e, ⟨ra, rc, rfl, hs.below hb⟩⟩

theorem Cuts.push {w0 w w' : World} {G C G' C' i rl rc : Nat} {m : List (List Nat)} {ra : Option Addr} (h : Cuts w0 w G C m i) (hr : rl = ((m.getD i []).take 20).length) (hs : SeenAt w0 ra rc ((m.getD i []).take 20))
    (h' : ∀ vs : List Value, w.ownsRow w0.heap.size 22 1 (.slice (some ⟨G, 0, none⟩) i C) i vs → w'.ownsRow w0.heap.size 22 1 (.slice (some ⟨G', 0, none⟩) (i + 1) C') (i + 1) (vs ++ [.slice ra rl rc])) : Cuts w0 w' G' C' m (i + 1) := by
  obtain ⟨vs, h1, h2, h3⟩ := h.own
  refine ⟨vs ++ [.slice ra rl rc], h' vs h1, by simp [h2], fun j hj => ?_⟩
  by_cases e : j = i
  · subst e
    exact ⟨ra, rc, by rw [List.getElem?_append_right (by omega), h2, hr]; simp, hs⟩
  · obtain ⟨a, c, e1, e2⟩ := h3 j (by omega)
    exact ⟨a, c, by rw [List.getElem?_append_left (by omega)]; exact e1, e2⟩



end Go.Proofs.Ytjefjlalebpodaa

namespace Go.Proofs.Ytjefjlalebpodaa
open Go.RowKit

set_option maxRecDepth 100000 in
set_option maxHeartbeats 2000000 in
theorem at_lagr (va : Option Addr) (vc l x : Nat) (vs : List Nat) (w : World) (hS : SeenAt w va vc vs) (hl : vs.length = l) (hl2 : l ≤ 256) (hx : x < 256) :
    Calls Try.prog 44 #[.slice va l vc, .int .u8 (x : Int)] w fun e w' => e = .returned (.int .u8 ((Mt.lagr vs x : Nat) : Int)) ∧ ∃ n, w' = w.drewN n := by
  have HL := Lib.hid hl
  have HS := Lib.hid hS
  have HE : Hid (Mt.lagr vs x = Mt.lgr vs l x l) := by show _ = _; unfold Mt.lagr; rw [hl]
  rw [HE.out]
  clear hS hl HE
  go_enter Try.func44, Try.ntmps44
  go_wp2
  go_loopw [5, 6, 7, 8, 9, 10] (fun s i _ _ _ _ ws => ∃ j n : Nat, j ≤ l ∧ s = .int .u8 ((Mt.lgr vs l x j : Nat) : Int) ∧ i = .int .i64 j ∧ ws = w.drewN n) (fun _ i _ _ _ _ _ => l - (intOf i).toNat)
  case atStart => exact ⟨0, 0, Nat.zero_le _, rfl, rfl, rfl⟩
  case round =>
    obtain ⟨j, n, hj, rfl, rfl, hws⟩ := hrel
    have HW := Lib.hid hws
    by_cases hlt : j < l
    · generalize wr = wo at *
      clear hws
      go_wp2
      go_loop [7, 8, 9] (fun s t i => ∃ q : Nat, q ≤ l ∧ s = .int .u8 ((Mt.up x j q : Nat) : Int) ∧ t = .int .u8 ((Mt.up j j q : Nat) : Int) ∧ i = .int .i64 q) (fun _ _ i => l - (intOf i).toNat)
      case atStart => exact ⟨0, Nat.zero_le _, rfl, rfl, rfl⟩
      case round =>
        obtain ⟨q, hq, rfl, rfl, rfl⟩ := hrel
        have u1 := Mt.up_lt x j q
        have u2 := Mt.up_lt j j q
        by_cases hlq : q < l
        · by_cases hqj : q = j
          · have HU : Hid (Mt.up x j (q + 1) = Mt.up x j q ∧ Mt.up j j (q + 1) = Mt.up j j q) := by constructor <;> simp [Mt.up, hqj]
            have hd : ((q : Int) != (j : Int)) = false := by simp; omega
            generalize Mt.up x j q = s at *
            generalize Mt.up j j q = t at *
            go_wp2
            go_round
            case rel => exact ⟨q + 1, by omega, by rw [HU.out.1], by rw [HU.out.2], by go_num⟩
            case measure => simp [intOf]; omega
          · have HU : Hid (Mt.up x j (q + 1) = Gf.gm (Mt.up x j q) (x ^^^ q) ∧ Mt.up j j (q + 1) = Gf.gm (Mt.up j j q) (j ^^^ q)) := by constructor <;> simp [Mt.up, hqj]
            have hd : ((q : Int) != (j : Int)) = true := by simp; omega
            have HX1 := Lib.hid (u8_xor_nat x q hx (by omega))
            have HX2 := Lib.hid (u8_xor_nat j q (by omega) (by omega))
            have hx1 := Gf.x_lt x q hx (by omega)
            have hx2 := Gf.x_lt j q (by omega) (by omega)
            generalize Mt.up x j q = s at *
            generalize Mt.up j j q = t at *
            go_wp2_with fail
            rw [HX1.out]
            refine (ref_gm _ _ _ (by omega) hx1).mono ?_
            rintro e w' ⟨rfl, rfl⟩
            go_wp2_with fail
            rw [HX2.out]
            refine (ref_gm _ _ _ (by omega) hx2).mono ?_
            rintro e w' ⟨rfl, rfl⟩
            go_wp2
            go_round
            case rel => exact ⟨q + 1, by omega, by rw [HU.out.1], by rw [HU.out.2], by go_num⟩
            case measure => simp [intOf]; omega
        · obtain rfl : q = l := by omega
          obtain ⟨xb, xoff, e, hx0⟩ := HS.out.cell j (by rw [HL.out]; exact hlt)
          subst e
          have hxc : wo.cell? ⟨xb, xoff + j, none⟩ = some (.int .u8 ((vs.getD j 0 : Nat) : Int)) := by rw [HW.out]; exact hx0
          have hxb := bytes_get vs j HS.out.byte
          have hg := Mt.lgr_lt vs q x j HS.out.byte
          have HST : Hid (Mt.lgr vs q x (j + 1) = Mt.lgr vs q x j ^^^ Gf.gm (vs.getD j 0) (Gf.gm (Mt.up x j q) (Gf.ipow (Mt.up j j q) 254))) := rfl
          have hp := Gf.ipow_lt (Mt.up j j q) 254
          have hq1 := Gf.gm_lt (Mt.up x j q) (Gf.ipow (Mt.up j j q) 254) u1
          have hq2 := Gf.gm_lt (vs.getD j 0) (Gf.gm (Mt.up x j q) (Gf.ipow (Mt.up j j q) 254)) hxb
          have HX := Lib.hid (u8_xor_nat _ _ hg hq2)
          have i0 : (0 : Int) ≤ (j : Int) := by omega
          have i1 : (j : Int) < (q : Int) := by omega
          clear hx0
          generalize Mt.lgr vs q x j = z at *
          generalize vs.getD j 0 = y at *
          generalize Mt.up x j q = s at *
          generalize Mt.up j j q = t at *
          go_wp2_with fail
          refine (power_any t 254 _ u2 (by omega)).mono ?_
          rintro e w' ⟨rfl, rfl⟩
          generalize Gf.ipow t 254 = iv at *
          go_wp2
          go_quiet ((go_at_call 55; exact quiet_left' (ref_gm _ _ _ (by omega) (by omega))))
          go_wp2
          go_round
          case rel => exact ⟨j + 1, n + nq, by omega, by rw [HST.out, ← HX.out], by go_num, by rw [HW.out, World.drewN_drewN]⟩
          case measure => simp [intOf]; omega
    · obtain rfl : j = l := by omega
      clear hws
      go_wp2
      go_ret
      exact ⟨rfl, n, HW.out⟩

end Go.Proofs.Ytjefjlalebpodaa

namespace Go.Proofs.Ytjefjlalebpodaa
open Go.RowKit

/-- Rows of powers of unlike numbers don't hang together. -/
theorem van_ok (k : Nat) (hk : k ≤ 256) : ¬ Mt.Sing k (vanK k k) := by
  rintro ⟨x, hx, ⟨j, hj, hn⟩, h⟩
  have hz := Mt.roots (List.range k) ((List.range k).map x) (fun c hc => by obtain ⟨j, _, rfl⟩ := List.mem_map.mp hc; exact hx j) (fun q hq => by have := List.mem_range.mp hq; omega) List.nodup_range (by simp) fun q hq => by
    have hq' := List.mem_range.mp hq
    rw [Mt.eval_xs k q x hx (by omega)]
    have hd := h q hq'
    rw [vanK_row k k q hq'] at hd
    rw [← hd]
    apply Mt.xs_congr
    intro l hl'
    rw [pows_get q k l hl', Gf.gm_comm _ _ (hx l) (Gf.ipow_lt q l)]
  exact hn (hz (x j) (List.mem_map.mpr ⟨j, by simpa using hj, rfl⟩))

/-- A code matrix is handed back. -/
def CodePost (w : World) (k n : Nat) (e : Ending) (w' : World) : Prop := ∃ C, CodeOK k n C ∧ RetM w n C e w'

set_option maxRecDepth 100000 in
set_option maxHeartbeats 2000000 in
theorem codeMatrix_any (k m n : Nat) (w : World) (hk : 1 ≤ k) (hn : k + m = n) (hn2 : n ≤ 255) :
    Calls Try.prog 54 #[.int .i64 (k : Int), .int .i64 (m : Int)] w (CodePost w k n) := by
  have HZ : Hid ((k : Int) + (m : Int) = (n : Int)) := by show _ = _; omega
  have hkn : k ≤ n := by omega
  have hm2 : m ≤ 255 := by omega
  have HH := Lib.hid hn
  clear hn
  go_enter Try.func54, Try.ntmps54
  go_wp2_with fail
  rw [HZ.out]
  refine (vander_any n k _ (by omega) (by omega) (by omega) (by omega)).mono ?_
  rintro e w1 ⟨_, G, C, g, c, rfl, hO, hb⟩
  have hC1 := hO.cap_le.1
  have hC2 := hO.cap_le.2
  rw [vanK_len] at hC1
  unfold maxLen at hC2
  have HO := Lib.hid hO
  have HB := Lib.hid hb
  clear hO hb
  go_wp2_with fail
  refine (inverse_any _ _ k (vanK k k) _ (by rw [← van_take k n hkn]; exact HO.out.gridAt.take k) (van_sd k k (by omega) (by omega)) (vanK_len k k) (by rw [vanK_row k k 0 (by omega), pows_len]) (by omega)).mono ?_
  rintro e w2 ⟨hb2, ⟨GX, CX, gx, cx, X, rfl, hX, sX, iX⟩ | ⟨rfl, hS⟩⟩
  · have HX := Lib.hid hX
    have HSX := Lib.hid sX
    have HIX := Lib.hid iX
    have HO2 := Lib.hid (HO.out.gridAt.below hb2)
    have HB2 := Lib.hid (HB.out.trans (hb2.mono HB.out.size))
    clear hX sX iX hb2
    go_wp2_with fail
    refine (matMul_at _ _ _ _ n k (vanK k n) X _ HO2.out HX.out.gridAt (van_sd k n (by omega) (by omega)) (Sd.of_sq HSX.out (by omega)) (by rw [vanK_row k n 0 (by omega), pows_len, HSX.out.len]) (by rw [vanK_len]; omega) (by rw [HSX.out.row 0 (by omega)]; omega) (vanK_len k n) HSX.out.len).mono ?_
    rintro e w3 ⟨hyl, GY, CY, gy, cy, rfl, hY, hb3⟩
    have HY := Lib.hid (hY.base HB2.out.size)
    have HB3 := Lib.hid (HB2.out.trans (hb3.mono HB2.out.size))
    have HYL := Lib.hid hyl
    clear hY hb3 hyl
    go_wp2
    go_ret
    exact ⟨_, code_ok k n X (by omega) hkn (by omega) HSX.out HIX.out, HYL.out, _, _, _, _, rfl, HY.out, HB3.out⟩
  · exact absurd hS (van_ok k (by omega))

/-- Sums of empty parts are empty. -/
theorem mprod_nil (a b : List (List Nat)) (h : (b.getD 0 []).length = 0) : mprod a b = List.replicate a.length [] := by
  refine getD_congr _ _ [] (by rw [mprod_len, List.length_replicate]) fun i hi => ?_
  rw [mprod_len] at hi
  have := mprod_row a b i hi
  rw [h] at this
  rw [getD_rep _ _ _ _ hi]
  exact List.eq_nil_of_length_eq_zero this

theorem grid_made (w : World) (n : Nat) (hn : n ≤ maxLen) : GridAt (w.alloc (.cells (madeCells #[.slice none 0 0] n) 22)) (some ⟨w.heap.size, 0, none⟩) n (List.replicate n []) := by
  have h := (oldG_made w w n (Nat.le_refl _) hn).grid (below_one _ _)
  have e : dats (List.replicate n fr0) = List.replicate n [] := by simp [dats, fr0]
  rw [e] at h
  exact h

theorem sd_ev {b : List (List Nat)} (h0 : 0 < b.length) (h1 : 0 < (b.getD 0 []).length) (e : Ev b) : Sd b := ⟨h0, h1, e⟩

set_option maxRecDepth 100000 in
set_option maxHeartbeats 2000000 in
theorem combined_any (va vb : Option Addr) (vc vd la lb : Nat) (a b : List (List Nat)) (w : World) (hA : GridAt w va vc a) (hB : GridAt w vb vd b) (hla : a.length = la) (hlb : b.length = lb) (hl0 : la ≤ 1000000) (h0 : 0 < lb) (sa : Sd a) (hf : (a.getD 0 []).length = lb) (eb : Ev b)
    (hk : (b.getD 0 []).length ≤ 1000000000) :
    Calls Try.prog 53 #[.slice va la vc, .slice vb lb vd] w (RetG w la (mprod a b)) := by
  obtain ⟨b2, off2, ra2, rc2, e2, hcb, _⟩ := hB.at 0 (by omega)
  rw [Nat.add_zero] at hcb
  subst e2
  have h0' : (0 : Int) < (lb : Int) := by omega
  by_cases hz : (b.getD 0 []).length = 0
  · have HM := Lib.hid (mprod_nil a b hz)
    rw [hz] at hcb
    rw [HM.out, hla]
    have hmk := run_make_row' (P := Try.prog) 30 22 (.slice none 0 0) 24 Try.underlying30 infoR rfl .i64 .i64 la (by omega) (by omega)
    clear hA hB hla hlb sa hf eb hz HM hk
    go_enter Try.func53, Try.ntmps53
    go_wp2
    go_ret
    exact ⟨by simp, _, _, rfl, grid_made w la (by unfold maxLen; omega), below_one _ _⟩
  · have HA := Lib.hid hA
    have HB := Lib.hid hB
    have HC := Lib.hid (fun w' => fun (h1 : GridAt w' va vc a) => fun (h2 : GridAt w' (some ⟨b2, off2, none⟩) vd b) => matMul_at va (some ⟨b2, off2, none⟩) vc vd la lb a b w' h1 h2 sa (sd_ev (by omega) (by omega) eb) (by rw [hf, hlb]) (by omega) hk hla hlb)
    have hz1 : ((((b.getD 0 []).length : Nat) : Int) == 0) = false := by simpa using hz
    have hz0 : 0 < (b.getD 0 []).length := by omega
    clear hA hB hla hlb sa hf eb hz hk
    generalize (b.getD 0 []).length = q at *
    go_enter Try.func53, Try.ntmps53
    go_wp2_with fail
    refine (HC.out _ HA.out HB.out).mono ?_
    rintro e w3 ⟨hyl, GY, CY, gy, cy, rfl, hY, hb3⟩
    have HY := Lib.hid hY.gridAt
    have HYL := Lib.hid hyl
    clear hY hyl
    go_wp2
    go_ret
    exact ⟨HYL.out, _, _, rfl, HY.out, hb3⟩

end Go.Proofs.Ytjefjlalebpodaa
