/-
  Layer 3: the law's at, even, cut.
-/
import Derived.Test.YtnhledngeicekaaWalksS1
namespace Go.Proofs.Ytnhledngeicekaa
open Go.RowKit

theorem at_any (va : Option Addr) (vc l n : Nat) (m : List (List Nat)) (w : World) (hG : GridAt w va vc m) (hl : m.length = l) (hn : n < l) :
    Calls Try.prog 26 #[.slice va l vc, .int .i64 (n : Int)] w fun e w' => (∃ ra rc, e = .returned (.slice ra (m.getD n []).length rc) ∧ SeenAt w ra rc (m.getD n [])) ∧ w = w' := by
  obtain ⟨b, off, ra, rc, e, hc, hS⟩ := hG.at n (by omega)
  subst e
  have HS := Lib.hid hS
  clear hS hG
  have HL := Lib.hid hl
  clear hl
  go_enter Try.func26, Try.ntmps26
  go_wp2
  go_ret
  exact ⟨⟨_, _, rfl, HS.out⟩, rfl⟩

/-- All rows as long as the first one. -/
def Ev (m : List (List Nat)) : Prop := ∀ i, i < m.length → (m.getD i []).length = (m.getD 0 []).length

set_option maxRecDepth 100000 in
set_option maxHeartbeats 1000000 in
theorem even_loop (b : Bool) (va : Option Addr) (vc l : Nat) (m : List (List Nat)) (w : World) (hG : GridAt w va vc m) (hl : m.length = l) (h1 : 0 < l) (hb : b = true ↔ Ev m) :
    Calls Try.prog 16 #[.slice va l vc] w fun e w' => e = .returned (.bool b) ∧ ∃ n, w' = w.drewN n := by
  obtain ⟨b0, off, ra, rc, e, hcr, _⟩ := hG.at 0 (by omega)
  rw [Nat.add_zero] at hcr
  subst e
  have HG := Lib.hid hG
  have HN := Lib.hid hb
  have hm := Nat.le_trans hG.le hG.max
  unfold maxLen at hm
  have hk2 := Nat.le_trans ‹SeenAt w ra rc _›.le ‹SeenAt w ra rc _›.max
  clear hG hb
  generalize hk : (m.getD 0 []).length = k at *
  have HK := Lib.hid hk
  clear hk
  unfold maxLen at hk2
  have HC0 := Lib.hid hcr
  rw [hl] at hm
  have HL := Lib.hid hl
  clear hcr hl
  go_enter Try.func16, Try.ntmps16
  go_wp2
  go_loopw [3] (fun i ws => ∃ j n : Nat, j ≤ l ∧ i = .int .i64 j ∧ ws = w.drewN n ∧ Hid (∀ i, i < j → (m.getD i []).length = k)) (fun i _ => l - (intOf i).toNat)
  case atStart => exact ⟨0, 0, Nat.zero_le _, rfl, rfl, fun i hi => by omega⟩
  case round =>
    obtain ⟨j, n, hj, rfl, hws, hN⟩ := hrel
    have hc0 : wr.cell? ⟨b0, off, none⟩ = some (.slice ra k rc) := by rw [hws]; exact HC0.out
    have HW := Lib.hid hws
    by_cases hlt : j < l
    · obtain ⟨b', off', ra', rc', e, hcj0, hSj⟩ := HG.out.at j (by rw [HL.out]; exact hlt)
      cases e
      have hcj : wr.cell? ⟨b0, off + j, none⟩ = some (.slice ra' (m.getD j []).length rc') := by rw [hws]; exact hcj0
      clear hws hcj0
      have hj0 : (0 : Int) ≤ (j : Int) := by omega
      have hj1 : (j : Int) < (l : Int) := by omega
      have hj2 : (0 : Int) < (l : Int) := by omega
      by_cases he : (m.getD j []).length = k
      · rw [he] at hcj
        have HE := Lib.hid he
        clear he hSj
        have t : ((k : Int) != (k : Int)) = false := by simp
        go_wp2
        go_quiet (fail)
        go_wp2
        go_round
        case rel =>
          refine ⟨j + 1, n + nq, by omega, by go_num, by rw [HW.out, World.drewN_drewN], fun i hi => ?_⟩
          by_cases e : i = j
          · subst e; exact HE.out
          · exact hN.out i (by omega)
        case measure => simp [intOf]; omega
      · have HE := Lib.hid he
        have hx := Nat.le_trans hSj.le hSj.max
        unfold maxLen at hx
        clear hSj
        generalize hll : (m.getD j []).length = q at *
        have HQ := Lib.hid hll
        clear hll
        have t : ((q : Int) != (k : Int)) = true := by simp; omega
        clear he
        have HF : Hid (b = false) := by
          show b = false
          cases hbb : b with
          | false => rfl
          | true => exact absurd (HN.out.mp hbb j (by rw [HL.out]; exact hlt)) (by rw [HQ.out, HK.out]; exact HE.out)
        go_wp2
        go_quiet (fail)
        go_wp2
        go_ret
        refine ⟨ret_bool HF.out.symm, n + nq, ?_⟩
        rw [HW.out, World.drewN_drewN]
    · obtain rfl : j = l := by omega
      have HT : Hid (b = true) := HN.out.mpr (fun i hi => by rw [HK.out]; exact hN.out i (by rw [HL.out] at hi; exact hi))
      clear hws
      go_wp2
      go_ret
      exact ⟨ret_bool HT.out.symm, n, HW.out⟩

theorem even_none (va : Option Addr) (vc : Nat) (w : World) :
    Calls Try.prog 16 #[.slice va 0 vc] w fun e w' => e = .returned (.bool true) ∧ w = w' := by
  go_enter Try.func16, Try.ntmps16
  go_wp2
  go_loop [3] (fun i => i = .int .i64 0) (fun _ => 0)
  case atStart => rfl
  case round =>
    obtain rfl := hrel
    go_wp2
    go_ret
    exact ⟨rfl, rfl⟩

/-- cut's rows, the first i done. -/
def ct2 (m : List (List Nat)) (i : Nat) : List (List Nat) := (m.take i).map fun r => r.take 20
theorem ct2_len (m : List (List Nat)) (i : Nat) (h : i ≤ m.length) : (ct2 m i).length = i := by simp [ct2]; omega
theorem ct2_succ (m : List (List Nat)) (i : Nat) (h : i < m.length) : ct2 m (i + 1) = ct2 m i ++ [(m.getD i []).take 20] := by
  unfold ct2
  rw [List.take_succ_eq_append_getElem h, List.map_append, List.getD_eq_getElem?_getD, List.getElem?_eq_getElem h]
  rfl

theorem SeenAt.far {w : World} {a : Option Addr} {cap : Nat} {ps : List Nat} (h : SeenAt w a cap ps) : ∃ a', SeenAt w a' cap ps ∧ (∀ b off, a' = some ⟨b, off, none⟩ → b < w.heap.size) := by
  by_cases h0 : ps = []
  · subst h0
    exact ⟨none, SeenAt.nil h.max, by simp⟩
  · have hp : 0 < ps.length := by cases ps with | nil => exact absurd rfl h0 | cons c p => simp
    exact ⟨a, h, h.block_lt hp⟩

/-- While cut goes on: the rows so far; each lies in old memory. -/
structure Cuts (w0 w : World) (G C : Nat) (m : List (List Nat)) (i : Nat) : Prop where
  own : ∃ vs : List Value, w.ownsRow w0.heap.size 28 1 (.slice (some ⟨G, 0, none⟩) i C) i vs ∧ vs.length = i ∧ ∀ j, j < i → ∃ ra rc, vs[j]? = some (.slice ra ((m.getD j []).take 20).length rc) ∧ SeenAt w0 ra rc ((m.getD j []).take 20)

theorem Cuts.lt {w0 w : World} {G C i : Nat} {m : List (List Nat)} (h : Cuts w0 w G C m i) : w0.heap.size ≤ G := by
  obtain ⟨vs, h1, _⟩ := h.own
  exact (World.ownsRow.lt h1 G rfl).1

theorem cuts_none (w : World) (m : List (List Nat)) : Cuts w (w.alloc (.cells #[] 28)) w.heap.size 0 m 0 :=
  ⟨[], World.ownsRow_lit (base := w.heap.size) (e := 28) (size := 1) w #[] 0 (Nat.le_refl _) (by unfold maxLen; omega) rfl, rfl, fun j hj => by omega⟩

theorem Cuts.grid {w0 w : World} {G C i : Nat} {m : List (List Nat)} (h : Cuts w0 w G C m i) (hi : i ≤ m.length) (hb : Below w0.heap.size w0 w) : GridAt w (some ⟨G, 0, none⟩) C (ct2 m i) := by
  obtain ⟨vs, h1, h2, h3⟩ := h.own
  obtain ⟨cur, hg, hnc, hcm, _, _⟩ := heap_of_owns h1
  refine ⟨by rw [ct2_len m i hi]; exact hnc, hcm, fun j hj => ?_⟩
  rw [ct2_len m i hi] at hj
  obtain ⟨ra, rc, e, hs⟩ := h3 j hj
  have er : (ct2 m i).getD j [] = (m.getD j []).take 20 := by
    unfold ct2
    rw [List.getD_eq_getElem?_getD, List.getElem?_map, List.getElem?_take_of_lt hj, List.getD_eq_getElem?_getD]
    cases m[j]? <;> simp
  rw [er]
  exact ⟨G, 0, _, rfl, by rw [Nat.zero_add, World.ownsRow.cellAt h1 j (by omega)]; exact e, ⟨ra, rc, rfl, hs.below hb⟩⟩

theorem Cuts.push {w0 w w' : World} {G C G' C' i rl rc : Nat} {m : List (List Nat)} {ra : Option Addr} (h : Cuts w0 w G C m i) (hr : rl = ((m.getD i []).take 20).length) (hs : SeenAt w0 ra rc ((m.getD i []).take 20))
    (h' : ∀ vs : List Value, w.ownsRow w0.heap.size 28 1 (.slice (some ⟨G, 0, none⟩) i C) i vs → w'.ownsRow w0.heap.size 28 1 (.slice (some ⟨G', 0, none⟩) (i + 1) C') (i + 1) (vs ++ [.slice ra rl rc])) : Cuts w0 w' G' C' m (i + 1) := by
  obtain ⟨vs, h1, h2, h3⟩ := h.own
  refine ⟨vs ++ [.slice ra rl rc], h' vs h1, by simp [h2], fun j hj => ?_⟩
  by_cases e : j = i
  · subst e
    exact ⟨ra, rc, by rw [List.getElem?_append_right (by omega), h2, hr]; simp, hs⟩
  · obtain ⟨a, c, e1, e2⟩ := h3 j (by omega)
    exact ⟨a, c, by rw [List.getElem?_append_left (by omega)]; exact e1, e2⟩



set_option maxRecDepth 100000 in
set_option maxHeartbeats 2000000 in
theorem cut3_short (va : Option Addr) (vc n k : Nat) (m : List (List Nat)) (w : World) (hG : GridAt w va vc m) (hl : m.length = n) (hn : n ≤ k) (hk : k ≤ 100) :
    Calls Try.prog 14 #[.slice va n vc, .int .i64 (k : Int)] w (RetG w n (ct2 m n)) := by
  have hd : decide ((k : Int) < (n : Int)) = false := by simp; omega
  have hd2 : decide (k < n) = false := by simp; omega
  have HG := Lib.hid hG
  have HML := Lib.hid hl
  clear hG hl
  go_enter Try.func14, Try.ntmps14
  go_wp2
  go_loopw [5, 6, 7] (fun s i _ ws => ∃ (j G C : Nat), j ≤ n ∧ i = .int .i64 j ∧ s = .slice (some ⟨G, 0, none⟩) j C ∧ Hid (Cuts w ws G C m j) ∧ Hid (Below w.heap.size w ws)) (fun _ i _ _ => n - (intOf i).toNat)
  case atStart => exact ⟨0, _, _, Nat.zero_le _, rfl, rfl, cuts_none w m, below_one _ _⟩
  case round =>
    obtain ⟨j, G, C, hj, rfl, rfl, hO, hb⟩ := hrel
    have hbz := hb.out.size
    by_cases hlt : j < n
    · obtain ⟨bj, offj, ra, rc, e, hcj0, hSj0⟩ := HG.out.at j (by rw [HML.out]; omega)
      subst e
      have hcj := cell_later hb.out hcj0
      have hrm := Nat.le_trans hSj0.le hSj0.max
      have hrc := hSj0.max
      have hll := hSj0.le
      have HSJ := Lib.hid (hSj0.take 20)
      unfold maxLen at hrm hrc
      clear hSj0 hcj0
      by_cases hr : (m.getD j []).length ≤ 20
      · have HRL : Hid ((m.getD j []).length = ((m.getD j []).take 20).length) := by show _ = _; rw [List.length_take]; omega
        generalize hrl : (m.getD j []).length = rl at *
        clear hrl
        have hd : decide ((20 : Int) < (rl : Int)) = false := by simp; omega
        obtain ⟨vs, ho1, ho2, ho3⟩ := hO.out.own
        have HOW := Lib.hid ho1
        have HO2 := Lib.hid ho2
        have HO3 := Lib.hid ho3
        clear ho1 ho2 ho3
        go_wp2_with (at_builtin; refine wpList_appV rfl (.tmp 31) (.tmp 33) rfl w.heap.size G C j _ rfl (World.ownsRow.alloc HOW.out _) _ _ _ rfl (cell_new' _ _ _ _ (by simp)) rfl (by omega) (by simp; omega) ?_; intro G2 C2 w3 hown2 hC3 hat3)
        have HP : Hid (Cuts w w3 G2 C2 m (j + 1)) := by
          refine ⟨vs ++ [.slice ra rl rc], hown2, by rw [List.length_append, HO2.out]; rfl, fun q hq => ?_⟩
          by_cases e : q = j
          · subst e
            exact ⟨ra, rc, by rw [List.getElem?_append_right (by rw [HO2.out]; omega), HO2.out, HRL.out]; simp, HSJ.out⟩
          · obtain ⟨a, c, e1, e2⟩ := HO3.out q (by omega)
            exact ⟨a, c, by rw [List.getElem?_append_left (by rw [HO2.out]; omega)]; exact e1, e2⟩
        have hG1 := hO.out.lt
        have hCC : Chg [G] wr w3 := ((Chg.refl _ _).alloc _).trans hC3
        go_round
        case rel => exact ⟨j + 1, G2, C2, by omega, by go_num, rfl, HP, hCC.below hb.out hbz (by simp; exact hG1)⟩
        case measure => simp [intOf]; omega
      · have HRL : Hid (20 = ((m.getD j []).take 20).length) := by show _ = _; rw [List.length_take]; omega
        generalize hrl : (m.getD j []).length = rl at *
        clear hrl
        have hd : decide ((20 : Int) < (rl : Int)) = true := by simp; omega
        obtain ⟨vs, ho1, ho2, ho3⟩ := hO.out.own
        have HOW := Lib.hid ho1
        have HO2 := Lib.hid ho2
        have HO3 := Lib.hid ho3
        clear ho1 ho2 ho3
        go_wp2_with (at_builtin; refine wpList_appV rfl (.tmp 31) (.tmp 33) rfl w.heap.size G C j _ rfl (World.ownsRow.alloc HOW.out _) _ _ _ rfl (cell_new' _ _ _ _ (by simp)) rfl (by omega) (by simp; omega) ?_; intro G2 C2 w3 hown2 hC3 hat3)
        have HP : Hid (Cuts w w3 G2 C2 m (j + 1)) := by
          refine ⟨vs ++ [.slice ra 20 rc], hown2, by rw [List.length_append, HO2.out]; rfl, fun q hq => ?_⟩
          by_cases e : q = j
          · subst e
            exact ⟨ra, rc, by rw [List.getElem?_append_right (by rw [HO2.out]; omega), HO2.out, HRL.out]; simp, HSJ.out⟩
          · obtain ⟨a, c, e1, e2⟩ := HO3.out q (by omega)
            exact ⟨a, c, by rw [List.getElem?_append_left (by rw [HO2.out]; omega)]; exact e1, e2⟩
        have hG1 := hO.out.lt
        have hCC : Chg [G] wr w3 := ((Chg.refl _ _).alloc _).trans hC3
        go_round
        case rel => exact ⟨j + 1, G2, C2, by omega, by go_num, rfl, HP, hCC.below hb.out hbz (by simp; exact hG1)⟩
        case measure => simp [intOf]; omega
    · obtain rfl : j = n := by omega
      have HGR := Lib.hid (hO.out.grid (by rw [HML.out]; omega) hb.out)
      have HLL := Lib.hid (ct2_len m j (by rw [HML.out]; omega))
      go_wp2
      go_ret
      exact ⟨HLL.out, _, _, rfl, HGR.out, hb.out⟩

set_option maxRecDepth 100000 in
set_option maxHeartbeats 2000000 in
theorem cut3_long (va : Option Addr) (vc l k : Nat) (m : List (List Nat)) (w : World) (hG : GridAt w va vc m) (hl : m.length = l) (hk : k < l) (hk1 : k ≤ 100) :
    Calls Try.prog 14 #[.slice va l vc, .int .i64 (k : Int)] w (RetG w k (ct2 m k)) := by
  have hd : decide ((k : Int) < (l : Int)) = true := by simp; omega
  have hlc := hG.le
  have hcm := hG.max
  rw [hl] at hlc
  unfold maxLen at hcm
  have HG := Lib.hid hG
  have HML := Lib.hid hl
  obtain ⟨b0, off0, _, _, e, _, _⟩ := hG.at 0 (by omega)
  subst e
  clear hG hl
  go_enter Try.func14, Try.ntmps14
  go_wp2
  clear hd
  go_loopw [5, 6, 7] (fun s i _ ws => ∃ (j G C : Nat), j ≤ k ∧ i = .int .i64 j ∧ s = .slice (some ⟨G, 0, none⟩) j C ∧ Hid (Cuts w ws G C m j) ∧ Hid (Below w.heap.size w ws)) (fun _ i _ _ => k - (intOf i).toNat)
  case atStart => exact ⟨0, _, _, Nat.zero_le _, rfl, rfl, cuts_none w m, below_one _ _⟩
  case round =>
    obtain ⟨j, G, C, hj, rfl, rfl, hO, hb⟩ := hrel
    have hbz := hb.out.size
    by_cases hlt : j < k
    · obtain ⟨bj, offj, ra, rc, e, hcj0, hSj0⟩ := HG.out.at j (by rw [HML.out]; omega)
      cases e
      have hcj := cell_later hb.out hcj0
      have hrm := Nat.le_trans hSj0.le hSj0.max
      have hrc := hSj0.max
      have hll := hSj0.le
      have HSJ := Lib.hid (hSj0.take 20)
      unfold maxLen at hrm hrc
      clear hSj0 hcj0
      by_cases hr : (m.getD j []).length ≤ 20
      · have HRL : Hid ((m.getD j []).length = ((m.getD j []).take 20).length) := by show _ = _; rw [List.length_take]; omega
        generalize hrl : (m.getD j []).length = rl at *
        clear hrl
        have hd : decide ((20 : Int) < (rl : Int)) = false := by simp; omega
        obtain ⟨vs, ho1, ho2, ho3⟩ := hO.out.own
        have HOW := Lib.hid ho1
        have HO2 := Lib.hid ho2
        have HO3 := Lib.hid ho3
        clear ho1 ho2 ho3
        go_wp2_with (at_builtin; refine wpList_appV rfl (.tmp 31) (.tmp 33) rfl w.heap.size G C j _ rfl (World.ownsRow.alloc HOW.out _) _ _ _ rfl (cell_new' _ _ _ _ (by simp)) rfl (by omega) (by simp; omega) ?_; intro G2 C2 w3 hown2 hC3 hat3)
        have HP : Hid (Cuts w w3 G2 C2 m (j + 1)) := by
          refine ⟨vs ++ [.slice ra rl rc], hown2, by rw [List.length_append, HO2.out]; rfl, fun q hq => ?_⟩
          by_cases e : q = j
          · subst e
            exact ⟨ra, rc, by rw [List.getElem?_append_right (by rw [HO2.out]; omega), HO2.out, HRL.out]; simp, HSJ.out⟩
          · obtain ⟨a, c, e1, e2⟩ := HO3.out q (by omega)
            exact ⟨a, c, by rw [List.getElem?_append_left (by rw [HO2.out]; omega)]; exact e1, e2⟩
        have hG1 := hO.out.lt
        have hCC : Chg [G] wr w3 := ((Chg.refl _ _).alloc _).trans hC3
        go_round
        case rel => exact ⟨j + 1, G2, C2, by omega, by go_num, rfl, HP, hCC.below hb.out hbz (by simp; exact hG1)⟩
        case measure => simp [intOf]; omega
      · have HRL : Hid (20 = ((m.getD j []).take 20).length) := by show _ = _; rw [List.length_take]; omega
        generalize hrl : (m.getD j []).length = rl at *
        clear hrl
        have hd : decide ((20 : Int) < (rl : Int)) = true := by simp; omega
        obtain ⟨vs, ho1, ho2, ho3⟩ := hO.out.own
        have HOW := Lib.hid ho1
        have HO2 := Lib.hid ho2
        have HO3 := Lib.hid ho3
        clear ho1 ho2 ho3
        go_wp2_with (at_builtin; refine wpList_appV rfl (.tmp 31) (.tmp 33) rfl w.heap.size G C j _ rfl (World.ownsRow.alloc HOW.out _) _ _ _ rfl (cell_new' _ _ _ _ (by simp)) rfl (by omega) (by simp; omega) ?_; intro G2 C2 w3 hown2 hC3 hat3)
        have HP : Hid (Cuts w w3 G2 C2 m (j + 1)) := by
          refine ⟨vs ++ [.slice ra 20 rc], hown2, by rw [List.length_append, HO2.out]; rfl, fun q hq => ?_⟩
          by_cases e : q = j
          · subst e
            exact ⟨ra, rc, by rw [List.getElem?_append_right (by rw [HO2.out]; omega), HO2.out, HRL.out]; simp, HSJ.out⟩
          · obtain ⟨a, c, e1, e2⟩ := HO3.out q (by omega)
            exact ⟨a, c, by rw [List.getElem?_append_left (by rw [HO2.out]; omega)]; exact e1, e2⟩
        have hG1 := hO.out.lt
        have hCC : Chg [G] wr w3 := ((Chg.refl _ _).alloc _).trans hC3
        go_round
        case rel => exact ⟨j + 1, G2, C2, by omega, by go_num, rfl, HP, hCC.below hb.out hbz (by simp; exact hG1)⟩
        case measure => simp [intOf]; omega
    · obtain rfl : j = k := by omega
      have HGR := Lib.hid (hO.out.grid (by rw [HML.out]; omega) hb.out)
      have HLL := Lib.hid (ct2_len m j (by rw [HML.out]; omega))
      go_wp2
      go_ret
      exact ⟨HLL.out, _, _, rfl, HGR.out, hb.out⟩

theorem cut3_any (va : Option Addr) (vc l k : Nat) (m : List (List Nat)) (w : World) (hG : GridAt w va vc m) (hl : m.length = l) (hk : k ≤ 100) :
    Calls Try.prog 14 #[.slice va l vc, .int .i64 (k : Int)] w (RetG w (cutM m k).length (cutM m k)) := by
  have e0 : ∀ n, n ≤ m.length → cutM m k = ct2 m n → (cutM m k).length = n := fun n h e => by rw [e, ct2_len m n h]
  by_cases h : k < l
  · have := cut3_long va vc l k m w hG hl h hk
    have e : cutM m k = ct2 m k := rfl
    rw [e0 k (by omega) e, e]
    exact this
  · have := cut3_short va vc l k m w hG hl (by omega) hk
    have e : cutM m k = ct2 m l := by unfold cutM ct2; rw [List.take_of_length_le (by omega), List.take_of_length_le (by omega)]
    rw [e0 l (by omega) e, e]
    exact this

end Go.Proofs.Ytnhledngeicekaa
