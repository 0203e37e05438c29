/-
  What the reference's One, Vander and Product do; mat.Vander.
-/
import Derived.Test.YtfldocibbjgdkaaWalksM6
namespace Go.Proofs.Ytfldocibbjgdkaa
open Go.RowKit

theorem cell_new' (w : World) (v : Value) (t : TypeId) (n : Nat) (h : w.heap.size = n) : (w.alloc (.cells #[v] t)).cell? ⟨n, 0, none⟩ = some v := by
  subst h; exact cell_new w v t

/-- out = append(out, row), the row of the call's own and younger than out. -/
theorem OwnM.pushed {wr w5 w6 : World} {base G C G' C' x y : Nat} {g c : Nat → Nat} {m : List (List Nat)} {r : List Nat} (h : OwnM wr base G C g c m) (hb5 : Below wr.heap.size wr w5) (hr : OwnB w5 base x y r) (hx : wr.heap.size ≤ x) (o : Obj)
    (hC : Chg [G] (w5.alloc o) w6)
    (ho : w6.ownsRow base 27 1 (.slice (some ⟨G', 0, none⟩) (m.length + 1) C') (m.length + 1) (rvals g c m ++ [.slice (some ⟨x, 0, none⟩) r.length y])) :
    OwnM w6 base G' C' (snoc m.length x g) (snoc m.length y c) (m ++ [r]) ∧ Chg [G] wr w6 := by
  have hG := h.lt.2
  have hCC : Chg [G] wr w6 := ((Chg.of_below hb5).alloc o).trans hC
  refine ⟨h.push hCC x y r ?_ (fun i hi => ?_) ho, hCC⟩
  · exact (hr.chg (gs := []) ((Chg.refl _ _).alloc o) (by simp)).chg hC (by simp; omega)
  · have := (h.row i hi).lt.2
    omega

/-- The first i rows of the identity matrix with n columns. -/
def roneK (n i : Nat) : List (List Nat) := (List.range i).map fun j => (List.replicate n 0).set j 1
theorem roneK_len (n i : Nat) : (roneK n i).length = i := by simp [roneK]
theorem roneK_succ (n i : Nat) : roneK n (i + 1) = roneK n i ++ [(List.replicate n 0).set i 1] := by simp [roneK, List.range_succ]

set_option maxRecDepth 100000 in
set_option maxHeartbeats 1000000 in
theorem rone_any (n : Nat) (w : World) (hn : n ≤ 1000000) :
    Calls Try.prog 16 #[.int .i64 (n : Int)] w (RetM w n (roneK n n)) := by
  have hmk := run_make_row' (P := Try.prog) 27 5 (.int .u8 0) 1 Try.underlying27 infoB rfl .i64 .i64 n (by omega) (by omega)
  go_enter Try.func16, Try.ntmps16
  go_wp2
  go_loopw [3, 4, 5] (fun s i _ ws => ∃ (j G C : Nat) (g c : Nat → Nat), j ≤ n ∧ i = .int .i64 j ∧ s = .slice (some ⟨G, 0, none⟩) j C ∧ Hid (OwnM ws w.heap.size G C g c (roneK n j)) ∧ Hid (Below w.heap.size w ws)) (fun _ i _ _ => n - (intOf i).toNat)
  case atStart => exact ⟨0, _, _, _, _, Nat.zero_le _, rfl, rfl, ownM_none w _ (Nat.le_refl _), below_one _ _⟩
  case round =>
    obtain ⟨j, G, C, g, c, hj, rfl, rfl, hO, hb⟩ := hrel
    have hbz := hb.out.size
    by_cases hlt : j < n
    · have HL := Lib.hid (roneK_len n j)
      have HOO := Lib.hid hO.out.outer
      rw [HL.out] at HOO
      have HN := Lib.hid (ownB_lit wr w.heap.size ((List.replicate n 0).set j 1) ((madeCells #[.int .u8 0] n).setIfInBounds j (.int .u8 1)) (by rw [Array.toList_setIfInBounds, toList_madeCells_one, ← vals_set, vals_rep]; rfl) (bytes_set _ _ _ (bytes_rep _) (by omega)) hbz (by simp; unfold maxLen; omega))
      have hcell : (madeCells #[.int .u8 0] n)[j]? = some (.int .u8 0) := by rw [← Array.getElem?_toList, toList_madeCells_one, List.getElem?_replicate, if_pos hlt]
      go_wp2_with (at_builtin; refine wpList_appV rfl (.tmp 17) (.tmp 19) rfl w.heap.size G C j _ rfl (World.ownsRow.alloc (World.ownsRow.alloc HOO.out _) _) _ _ _ rfl (cell_new' _ _ _ _ (by simp)) rfl (by omega) (by simp; omega) ?_; intro G2 C2 w2 hown2 hC2 hat2)
      have HP : Hid (OwnM w2 w.heap.size G2 C2 (snoc j wr.heap.size g) (snoc j n c) (roneK n (j + 1)) ∧ Chg [G] wr w2) := by
        have := hO.out.pushed (below_one _ _) HN.out (Nat.le_refl _) _ (by simpa using hC2) (by rw [HL.out]; simpa using hown2)
        rw [HL.out] at this
        show OwnM _ _ _ _ _ _ _ ∧ _
        rw [roneK_succ]
        simpa using this
      have hG1 := hO.out.lt.1
      go_round
      case rel => exact ⟨j + 1, G2, C2, _, _, by omega, by go_num, rfl, HP.out.1, HP.out.2.below hb.out hbz (by simp; exact hG1)⟩
      case measure => simp [intOf]; omega
    · obtain rfl : j = n := by omega
      go_wp2
      go_ret
      exact ⟨roneK_len _ _, _, _, _, _, rfl, hO.out, hb.out⟩

/-- append(s, x...), the lengths by names of their own. -/
theorem wpList_appN {ops : Array Oper} {rest : List Oper} {o : Oper} {a : Act} {Q : Exit → Act → World → Prop} {w : World} (hgd : o.guard = none) (s x : Operand)
    (ho : o.op = .call { callee := .builtin .append, args := #[s, x], argTypes := #[27, 27] })
    (base g cap : Nat) (ps qs : List Nat) (n q : Nat) (hn : ps.length = n) (hqn : qs.length = q) (hs : a.eval s = .slice (some ⟨g, 0, none⟩) n cap) (hown : OwnB w base g cap ps)
    (xa : Option Addr) (xc : Nat) (hx : a.eval x = .slice xa q xc) (hq : SeenAt w xa xc qs) (hb : n + q ≤ 1000000000) (hbase : base ≤ w.heap.size)
    (h : ∀ g' cap' w', OwnB w' base g' cap' (ps ++ qs) → Chg [g] w w' → (g' = g ∨ w.heap.size ≤ g') → wpList Try.prog ops Q rest (a.put o.dst (.slice (some ⟨g', 0, none⟩) (n + q) cap')) w') :
    wpList Try.prog ops Q (o :: rest) a w := by
  subst hn hqn
  refine wpList_appB hgd s x ho base g cap ps qs hs hown xa xc hx hq hb hbase fun g' cap' w' h1 h2 h3 => ?_
  rw [List.length_append]
  exact h g' cap' w' h1 h2 h3

theorem seen_one (w : World) (c n : Nat) (hc : c < 256) (h : w.heap.size = n) : SeenAt (w.alloc (.cells #[.int .u8 (c : Int)] 5)) (some ⟨n, 0, none⟩) 1 [c] :=
  ⟨by simp, by unfold maxLen; omega, by intro x hx; simp at hx; omega, fun i hi => ⟨n, 0, rfl, by
    have : i = 0 := by simpa using hi
    subst this
    exact cell_new' w _ _ n h⟩⟩

/-- The powers of x from 0 on. -/
def pows (x n : Nat) : List Nat := (List.range n).map (Gf.ipow x)
theorem pows_len (x n : Nat) : (pows x n).length = n := by simp [pows]
theorem pows_succ (x n : Nat) : pows x (n + 1) = pows x n ++ [Gf.ipow x n] := by simp [pows, List.range_succ]

/-- The first i rows of powers. -/
def vanK (k i : Nat) : List (List Nat) := (List.range i).map fun j => pows j k
theorem vanK_len (k i : Nat) : (vanK k i).length = i := by simp [vanK]
theorem vanK_succ (k i : Nat) : vanK k (i + 1) = vanK k i ++ [pows i k] := by simp [vanK, List.range_succ]

theorem bytes_one (c : Nat) (h : c < 256) : Gf.Bytes [c] := by intro x hx; simp at hx; omega

set_option maxRecDepth 100000 in
set_option maxHeartbeats 1000000 in
theorem rvan_any (n k : Nat) (w : World) (hn : n ≤ 256) (hk : k ≤ 1000000) :
    Calls Try.prog 20 #[.int .i64 (n : Int), .int .i64 (k : Int)] w (RetM w n (vanK k n)) := by
  go_enter Try.func20, Try.ntmps20
  go_wp2
  go_loopw [5, 6, 7, 8, 9] (fun s i _ _ _ ws => ∃ (j G C : Nat) (g c : Nat → Nat), j ≤ n ∧ i = .int .i64 j ∧ s = .slice (some ⟨G, 0, none⟩) j C ∧ Hid (OwnM ws w.heap.size G C g c (vanK k j)) ∧ Hid (Below w.heap.size w ws)) (fun _ i _ _ _ _ => n - (intOf i).toNat)
  case atStart => exact ⟨0, _, _, _, _, Nat.zero_le _, rfl, rfl, ownM_none w _ (Nat.le_refl _), below_one _ _⟩
  case round =>
    obtain ⟨j, G, C, g, c, hj, rfl, rfl, hO, hb⟩ := hrel
    have hbz := hb.out.size
    by_cases hlt : j < n
    · generalize wr = wo at *
      have HN := Lib.hid (ownB_lit wo w.heap.size [] #[] rfl bytes_nil hbz (by unfold maxLen; simp))
      go_wp2
      go_loopw [7, 8, 9] (fun s x i ws => ∃ (q b y : Nat), q ≤ k ∧ i = .int .i64 q ∧ x = .int .u8 ((Gf.ipow j q : Nat) : Int) ∧ s = .slice (some ⟨b, 0, none⟩) q y ∧ Hid (OwnB ws w.heap.size b y (pows j q)) ∧ Hid (Below wo.heap.size wo ws) ∧ wo.heap.size ≤ b) (fun _ _ i _ => k - (intOf i).toNat)
      case atStart => exact ⟨0, wo.heap.size, 0, Nat.zero_le _, rfl, rfl, rfl, HN, below_one _ _, Nat.le_refl _⟩
      case round =>
        obtain ⟨q, b, y, hq, rfl, rfl, rfl, hB, hbl, hbo⟩ := hrel
        have hbq := hbl.out.size
        have hip := Gf.ipow_lt j q
        have HPL := Lib.hid (pows_len j q)
        by_cases hlq : q < k
        · have HS := Lib.hid (pows_succ j q)
          have HI : Hid (Gf.ipow j (q + 1) = Gf.gm (Gf.ipow j q) j) := rfl
          generalize Gf.ipow j q = x at *
          go_wp2_with (first | (at_builtin; refine wpList_appN rfl (.tmp 22) (.tmp 24) rfl w.heap.size b y (pows j q) [x] q 1 HPL.out rfl rfl (hB.out.chg (gs := []) ((Chg.refl _ _).alloc _) (by simp)) _ _ rfl (seen_one _ _ _ hip rfl) (by omega) (by simp; omega) ?_; intro b2 y2 w2 hB2 hC2 hat2) | (go_at_call 26; refine (ref_gm _ _ _ (by omega) (by omega)).mono ?_; rintro e w' ⟨rfl, rfl⟩))
          go_round
          case rel =>
            refine ⟨q + 1, b2, y2, by omega, by go_num, by rw [HI.out], rfl, by rw [HS.out]; exact hB2, ?_, ?_⟩
            · exact hC2.below (hbl.out.alloc hbq _) (by simp; omega) (by simp; omega)
            · rcases hat2 with h | h
              · omega
              · simp at h; omega
          case measure => simp [intOf]; omega
        · obtain rfl : q = k := by omega
          have HL := Lib.hid (vanK_len q j)
          have HOO := Lib.hid hO.out.outer
          rw [HL.out] at HOO
          have HO5 := Lib.hid ((Chg.of_below (gs := []) hbl.out).owns HOO.out (by simp))
          go_wp2_with (at_builtin; refine wpList_appV rfl (.tmp 30) (.tmp 32) rfl w.heap.size G C j _ rfl (World.ownsRow.alloc HO5.out _) _ _ _ rfl (cell_new' _ _ _ _ (by simp)) rfl (by omega) (by simp; omega) ?_; intro G2 C2 w2 hown2 hC2 hat2)
          have HP : Hid (OwnM w2 w.heap.size G2 C2 (snoc j b g) (snoc j y c) (vanK q (j + 1)) ∧ Chg [G] wo w2) := by
            have := hO.out.pushed hbl.out hB.out hbo _ (by simpa using hC2) (by rw [HL.out, HPL.out]; exact hown2)
            rw [HL.out] at this
            show OwnM _ _ _ _ _ _ _ ∧ _
            rw [vanK_succ]
            exact this
          have hG1 := hO.out.lt.1
          go_round
          case rel => exact ⟨j + 1, G2, C2, _, _, by omega, by go_num, rfl, HP.out.1, HP.out.2.below hb.out hbz (by simp; exact hG1)⟩
          case measure => simp [intOf]; omega
    · obtain rfl : j = n := by omega
      go_wp2
      go_ret
      exact ⟨vanK_len _ _, _, _, _, _, rfl, hO.out, hb.out⟩

end Go.Proofs.Ytfldocibbjgdkaa
