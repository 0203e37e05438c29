/-
  The walk of the law GfPolys.
-/
import Derived.Test.YtgpbjjclbmgjeaaRows8
namespace Go.Proofs.Ytgpbjjclbmgjeaa
open Go.RowKit

theorem sum_none (ps : List Nat) : Gf.sum ps [] = ps := by cases ps <;> rfl

theorem sum_len : ∀ (ps qs : List Nat), (Gf.sum ps qs).length = max ps.length qs.length
  | [], qs => by simp [Gf.sum]
  | c :: ps, [] => by simp [Gf.sum]
  | c :: ps, d :: qs => by simp [Gf.sum, sum_len ps qs]

theorem sum_set : ∀ (ps qs : List Nat) (k : Nat), k < qs.length → k < ps.length →
    Gf.sum ps (qs.take (k + 1)) = (Gf.sum ps (qs.take k)).set k ((Gf.sum ps (qs.take k)).getD k 0 ^^^ qs.getD k 0)
  | [], _, _, _, h => by simp at h
  | c :: ps, [], _, h, _ => by simp at h
  | c :: ps, d :: qs, 0, _, _ => by simp [Gf.sum, sum_none]
  | c :: ps, d :: qs, k + 1, h, h' => by
    have ih := sum_set ps qs k (by simpa using h) (by simpa using h')
    simp only [List.take_succ_cons, Gf.sum, List.set_cons_succ, List.getD_cons_succ]
    rw [ih]

theorem sum_app : ∀ (ps qs : List Nat) (k : Nat), k < qs.length → ps.length ≤ k → Gf.sum ps (qs.take (k + 1)) = Gf.sum ps (qs.take k) ++ [qs.getD k 0]
  | [], qs, k, h, _ => take_snoc qs k h
  | c :: ps, [], _, h, _ => by simp at h
  | c :: ps, d :: qs, 0, _, h' => by simp at h'
  | c :: ps, d :: qs, k + 1, h, h' => by
    have ih := sum_app ps qs k (by simpa using h) (by simpa using h')
    simp only [List.take_succ_cons, Gf.sum, List.getD_cons_succ, List.cons_append]
    rw [ih]

theorem sum_bytes : ∀ (ps qs : List Nat), Gf.Bytes ps → Gf.Bytes qs → Gf.Bytes (Gf.sum ps qs)
  | [], qs, _, hq => by simpa [Gf.sum] using hq
  | c :: ps, [], hp, _ => by simpa [Gf.sum] using hp
  | c :: ps, d :: qs, hp, hq => by
    intro e he
    simp only [Gf.sum, List.mem_cons] at he
    rcases he with rfl | he
    · exact Gf.x_lt _ _ (hp c (List.mem_cons_self ..)) (hq d (List.mem_cons_self ..))
    · exact sum_bytes ps qs (fun x hx => hp x (List.mem_cons_of_mem _ hx)) (fun x hx => hq x (List.mem_cons_of_mem _ hx)) e he

theorem vals_set (ps : List Nat) (k c : Nat) : (vals ps).set k (.int .u8 (c : Int)) = vals (ps.set k c) := by simp [vals, List.map_set]

/-- A store into a row of the call's own. -/
theorem OwnB.stored {w : World} {base g cap : Nat} {ps : List Nat} (h : OwnB w base g cap ps) (k c : Nat) :
    OwnB (w.setCell ⟨g, k, none⟩ (.int .u8 (c : Int))) base g cap (ps.set k c) ∧ w.grownBy (w.setCell ⟨g, k, none⟩ (.int .u8 (c : Int))) (some g) := by
  have hs := World.ownsRow.stored h k (.int .u8 (c : Int))
  rw [vals_set] at hs
  refine ⟨?_, hs.2⟩
  unfold OwnB
  rw [List.length_set]
  exact hs.1

theorem OwnB.cell {w : World} {base g cap : Nat} {ps : List Nat} (h : OwnB w base g cap ps) (k : Nat) (hk : k < ps.length) :
    w.cell? ⟨g, k, none⟩ = some (.int .u8 ((ps.getD k 0 : Nat) : Int)) := by
  rw [World.ownsRow.cellAt h k (by omega)]; exact vals_at ps k hk

theorem OwnB.drew {w : World} {base g cap : Nat} {ps : List Nat} (h : OwnB w base g cap ps) : OwnB w.drew base g cap ps := World.ownsRow.drew h

theorem ownB_lit (w : World) (base : Nat) (ps : List Nat) (cs : Array Value) (hcs : cs.toList = vals ps) (hb : base ≤ w.heap.size) (hm : ps.length ≤ maxLen) :
    OwnB (w.alloc (.cells cs 5)) base w.heap.size ps.length ps := by
  have hsz : cs.size = ps.length * 1 := by rw [← Array.length_toList, hcs, vals_len]; omega
  have := World.ownsRow_lit (base := base) (e := 5) (size := 1) w cs ps.length hb hm hsz
  rw [hcs] at this
  exact this

set_option maxRecDepth 100000 in
set_option maxHeartbeats 1000000 in
theorem gfPolys_long (a0 a1 : Option Addr) (l0 l1 c0 c1 x : Nat) (w : World) (h : 200 < l0 ∨ 200 < l1) (h0 : l0 ≤ maxLen) (h1 : l1 ≤ maxLen) :
    Calls Try.prog 9 #[.slice a0 l0 c0, .slice a1 l1 c1, .int .u8 (x : Int)] w fun e w' => e = .returned (.bool true) ∧ Below w.heap.size w w' := by
  unfold maxLen at h0 h1
  by_cases hl : 200 < l0
  · have hd : decide ((200 : Int) < (l0 : Int)) = true := by simp; omega
    go_enter Try.func9, Try.ntmps9
    go_wp2_with fail
    refine (awake_any _).mono ?_
    rintro e w1 ⟨rfl, hb1⟩
    go_wp2
    go_ret
    exact ⟨rfl, hb1⟩
  · have hd : decide ((200 : Int) < (l0 : Int)) = false := by simp; omega
    have hd' : decide ((200 : Int) < (l1 : Int)) = true := by simp; omega
    go_enter Try.func9, Try.ntmps9
    go_wp2_with fail
    refine (awake_any _).mono ?_
    rintro e w1 ⟨rfl, hb1⟩
    go_wp2
    go_ret
    exact ⟨rfl, hb1⟩

theorem seen_lit (w : World) (ps : List Nat) (cs : Array Value) (hcs : cs.toList = vals ps) : Seen (w.alloc (.cells cs 5)) (.slice (some ⟨w.heap.size, 0, none⟩) ps.length ps.length) ps :=
  .inr ⟨_, _, rfl, fun i hi => by
    rw [Go.WideShapes.add_plain, Nat.zero_add, World.cell?_alloc_at (hn := rfl), ← Array.getElem?_toList, hcs]
    exact vals_at ps i hi⟩


set_option maxRecDepth 100000 in
set_option maxHeartbeats 1000000 in
theorem gfPolys_some (a0 : Option Addr) (b off l0 l1 c0 c1 x : Nat) (ps qs : List Nat) (w : World) (hL0 : ps.length = l0) (hL1 : qs.length = l1) (h0 : l0 ≤ 200) (h1 : l1 ≤ 200) (hp0 : 0 < l1)
    (hB0 : Gf.Bytes ps) (hB1 : Gf.Bytes qs) (hx : x < 256) (hS0 : Seen w (.slice a0 l0 c0) ps)
    (hC : ∀ i, i < l1 → w.cell? ⟨b, off + i, none⟩ = some (.int .u8 ((qs.getD i 0 : Nat) : Int))) :
    Calls Try.prog 9 #[.slice a0 l0 c0, .slice (some ⟨b, off, none⟩) l1 c1, .int .u8 (x : Int)] w fun e w' => e = .returned (.bool true) ∧ Below w.heap.size w w' := by
  have hd : decide ((200 : Int) < (l0 : Int)) = false := by simp; omega
  have hd' : decide ((200 : Int) < (l1 : Int)) = false := by simp; omega
  have HS0 := Lib.hid hS0
  have HC := Lib.hid hC
  have HL0 := Lib.hid hL0
  have HL1 := Lib.hid hL1
  have HB0 := Lib.hid hB0
  have HB1 := Lib.hid hB1
  clear hS0 hC hL0 hL1 hB0 hB1
  go_enter Try.func9, Try.ntmps9
  go_wp2_with (at_builtin; refine wpList_appB rfl (.tmp 19) (.tmp 20) rfl w.heap.size w.heap.size 0 [] ps rfl (ownB_lit w _ [] #[] rfl (Nat.le_refl _) (by simp)) _ rfl (HS0.out.below (below_one _ _)) (by rw [HL0.out]; simp; omega) (by simp) ?_; intro g cap w1 hown hg)
  have hbl : Below w.heap.size w w1 := (below_one w _).grown hg (by simp) (by rintro k ⟨⟩; exact Nat.le_refl _)
  have HO : Hid (OwnB w1 w.heap.size g cap ps) := hown
  have HBL := Lib.hid hbl
  clear hown hg hbl
  go_loopw [7, 8] (fun s i ws => ∃ k g cap : Nat, k ≤ l1 ∧ i = .int .i64 k ∧ s = .slice (some ⟨g, 0, none⟩) (Gf.sum ps (qs.take k)).length cap ∧ Hid (OwnB ws w.heap.size g cap (Gf.sum ps (qs.take k))) ∧ Hid (Below w.heap.size w ws)) (fun _ i _ => l1 - (intOf i).toNat)
  case atStart => exact ⟨0, g, cap, Nat.zero_le _, rfl, by rw [List.take_zero, sum_none], by rw [List.take_zero, sum_none]; exact HO, HBL⟩
  case round =>
    obtain ⟨k, g, cap, hk, rfl, rfl, hown, hbl⟩ := hrel
    have hlen : (Gf.sum ps (qs.take k)).length = max l0 k := by rw [sum_len, List.length_take, HL0.out, HL1.out, Nat.min_eq_left hk]
    by_cases hlt : k < l1
    · have hcq := cell_later hbl.out (HC.out k hlt)
      have hq := bytes_get qs k HB1.out
      by_cases hl0 : k < l0
      · have hcs := hown.out.cell k (by rw [hlen]; omega)
        have hfz := World.ownsRow.frozenAt hown.out k
        have hs := bytes_get _ k (sum_bytes ps (qs.take k) HB0.out (bytes_take qs k HB1.out))
        have HST := Lib.hid (sum_set ps qs k (by rw [HL1.out]; omega) (by rw [HL0.out]; omega))
        have hsl : k < (Gf.sum ps (qs.take k)).length := by rw [hlen]; omega
        have hsl' : (k : Int) < ((Gf.sum ps (qs.take k)).length : Int) := by omega
        have hlen' : (Gf.sum ps (qs.take k)).length ≤ 200 := by omega
        have HLE := Lib.hid hlen
        clear hlen
        generalize hS : Gf.sum ps (qs.take k) = S at *
        have HX := Lib.hid (u8_xor_nat (S.getD k 0) (qs.getD k 0) hs hq)
        have HST' := hown.out.stored k (S.getD k 0 ^^^ qs.getD k 0)
        have HST2 := Lib.hid HST'
        clear HST' hS
        have hk' : (k : Int) < (l1 : Int) := by omega
        generalize hsv : S.getD k 0 = sv at *
        generalize hqv : qs.getD k 0 = qv at *
        clear hsv hqv
        go_wp2
        go_region
        all_goals go_wp2
        all_goals
          go_round
          case rel =>
            refine ⟨k + 1, g, cap, by omega, by go_num, by rw [HST.out, List.length_set], ?_, ?_⟩
            · rw [HST.out, HX.out]; exact HST2.out.1.drew
            · rw [HX.out]; exact Below.drew (hbl.out.setCell hown.out.lt.1 _)
          case measure => simp [intOf]; omega
      · have HAP := Lib.hid (sum_app ps qs k (by rw [HL1.out]; omega) (by rw [HL0.out]; omega))
        have hsl : ¬ k < (Gf.sum ps (qs.take k)).length := by rw [hlen]; omega
        have hsl' : ((Gf.sum ps (qs.take k)).length : Int) ≤ (k : Int) := by omega
        have hlen' : (Gf.sum ps (qs.take k)).length ≤ 200 := by omega
        have hbz := hbl.out.size
        clear hlen
        generalize hS : Gf.sum ps (qs.take k) = S at *
        clear hS
        have hk' : (k : Int) < (l1 : Int) := by omega
        generalize hqv : qs.getD k 0 = qv at *
        clear hqv
        go_wp2_with (at_builtin; refine wpList_appB rfl (.tmp 42) (.tmp 47) rfl w.heap.size g cap S [qv] rfl (hown.out.kept (World.grownBy_alloc wr _ none) (by simp)) _ rfl (seen_lit wr [qv] _ rfl) (by simp; omega) (by simp; omega) ?_; intro g' cap' w2 hown2 hg2)
        go_round
        case rel =>
          refine ⟨k + 1, g', cap', by omega, by go_num, by rw [HAP.out]; simp, ?_, ?_⟩
          · rw [HAP.out]; exact hown2
          · exact (hbl.out.alloc hbl.out.size _).grown hg2 (by simp; omega) (by rintro j ⟨⟩; exact hown.out.lt.1)
        case measure => simp [intOf]; omega
    · obtain rfl : l1 = k := by omega
      have HT : Hid (qs.take l1 = qs) := List.take_of_length_le (by rw [HL1.out]; omega)
      rw [HT.out] at hown hlen ⊢
      have hbz := hbl.out.size
      have HS1 : Hid (Seen wr (.slice (some ⟨b, off, none⟩) l1 c1) qs) := .inr ⟨_, c1, by rw [HL1.out], fun i hi => by
        rw [Go.WideShapes.add_plain]; exact cell_later hbl.out (HC.out i (by rw [← HL1.out]; exact hi))⟩
      have hlen' : (Gf.sum ps qs).length ≤ 200 := by omega
      clear hlen
      have HBS := Lib.hid (sum_bytes ps qs HB0.out HB1.out)
      have HE1 := Lib.hid (Gf.eval_sum ps qs x)
      go_wp2_with (at_builtin; refine wpList_appB rfl (.tmp 50) (.tmp 51) rfl w.heap.size wr.heap.size 1 [x] ps rfl (ownB_lit wr _ [x] _ rfl (by omega) (by unfold maxLen; simp)) _ rfl ((HS0.out.below hbl.out).below (below_one _ _)) (by rw [HL0.out]; simp; omega) (by simp; omega) ?_; intro g2 cap2 w2 hown2 hg2)
      have hgl := hown.out.lt
      have hownS := (hown.out.kept (World.grownBy_alloc wr _ none) (by simp)).kept hg2 (by simp; omega)
      have hb2 : Below wr.heap.size wr w2 := (below_one wr _).grown hg2 (by simp) (by rintro j ⟨⟩; exact Nat.le_refl _)
      have hS : Seen w2 (.slice (some ⟨g, 0, none⟩) (Gf.sum ps qs).length cap) (Gf.sum ps qs) := hownS.seen
      have hU : Seen w2 (.slice (some ⟨g2, 0, none⟩) (ps.length + 1) cap2) (x :: ps) := hown2.seen
      have hP : Seen w2 (.slice a0 l0 c0) ps := (HS0.out.below hbl.out).below hb2
      have hQ : Seen w2 (.slice (some ⟨b, off, none⟩) l1 c1) (qs) := HS1.out.below hb2
      have hb3 := hbl.out.trans (hb2.mono hbl.out.size)
      clear hown2 hg2 hownS hb2 hgl
      refine (awake_any _).mono ?_
      rintro e w3 ⟨rfl, hb4⟩
      replace hS := hS.below hb4
      replace hU := hU.below hb4
      replace hP := hP.below hb4
      replace hQ := hQ.below hb4
      replace hb4 := hb3.trans (hb4.mono hb3.size)
      have hps : ps.length ≤ maxLen := by unfold maxLen; rw [HL0.out]; omega
      have hqs : (qs).length ≤ maxLen := by unfold maxLen; rw [HL1.out]; omega
      have hss : (Gf.sum ps qs).length ≤ maxLen := by unfold maxLen; omega
      have hus : (x :: ps).length ≤ maxLen := by unfold maxLen at hps ⊢; simp; rw [HL0.out]; omega
      have hub : Gf.Bytes (x :: ps) := by
        intro c hc
        rcases List.mem_cons.mp hc with rfl | hc
        · exact hx
        · exact HB0.out c hc
      have hep := Gf.eval_lt ps x HB0.out
      have heq := Gf.eval_lt (qs) x HB1.out
      have hgx := Gf.gm_lt x (Gf.eval ps x) hx
      have HE2 : Hid (Gf.eval (x :: ps) x = x ^^^ Gf.gm x (Gf.eval ps x)) := by
        show Gf.eval (x :: ps) x = _
        rw [Gf.eval_cons, Gf.gm_comm _ _ hep hx, Nat.xor_comm]
      have H1 := Lib.hid hps; have H2 := Lib.hid hqs; have H3 := Lib.hid hss; have H4 := Lib.hid hus
      clear hps hqs hss hus
      go_wp2_with fail
      refine (eval_seen x hS HBS.out H3.out hx).mono ?_
      rintro e w' ⟨rfl, n1, rfl⟩
      rw [HE1.out]
      go_wp2_with fail
      refine (eval_seen x (hP.drewN n1) HB0.out H1.out hx).mono ?_
      rintro e w' ⟨rfl, n2, rfl⟩
      go_wp2_with fail
      refine (eval_seen x (hQ.drewN _) HB1.out H2.out hx).mono ?_
      rintro e w' ⟨rfl, n3, rfl⟩
      go_wp2_with fail
      refine (add_any _ _ _ hep heq).mono ?_
      rintro e w' ⟨rfl, rfl⟩
      go_wp2_with fail
      refine (eval_seen x (hU.drewN _) hub H4.out hx).mono ?_
      rintro e w' ⟨rfl, n4, rfl⟩
      rw [HE2.out]
      go_wp2_with fail
      refine (eval_seen x (hP.drewN _) HB0.out H1.out hx).mono ?_
      rintro e w' ⟨rfl, n5, rfl⟩
      go_wp2_with fail
      refine (mul_any _ _ _ hx hep).mono ?_
      rintro e w' ⟨rfl, rfl⟩
      go_wp2_with fail
      refine (add_any _ _ _ hx hgx).mono ?_
      rintro e w' ⟨rfl, rfl⟩
      go_wp2
      go_ret
      exact ⟨rfl, hb4.trans ((below_drewN _ _).mono hb4.size)⟩

set_option maxRecDepth 100000 in
set_option maxHeartbeats 1000000 in
theorem gfPolys_none (a0 a1 : Option Addr) (l0 c0 c1 x : Nat) (ps : List Nat) (w : World) (hL0 : ps.length = l0) (h0 : l0 ≤ 200)
    (hB0 : Gf.Bytes ps) (hx : x < 256) (hS0 : Seen w (.slice a0 l0 c0) ps) (hS1 : Seen w (.slice a1 0 c1) []) :
    Calls Try.prog 9 #[.slice a0 l0 c0, .slice a1 0 c1, .int .u8 (x : Int)] w fun e w' => e = .returned (.bool true) ∧ Below w.heap.size w w' := by
  have hd : decide ((200 : Int) < (l0 : Int)) = false := by simp; omega
  have HS0 := Lib.hid hS0
  have HS1' := Lib.hid hS1
  have HL0 := Lib.hid hL0
  have HL1 : Hid (([] : List Nat).length = 0) := rfl
  have HB0 := Lib.hid hB0
  have HB1 : Hid (Gf.Bytes []) := by intro c hc; simp at hc
  clear hS0 hS1 hL0 hB0
  go_enter Try.func9, Try.ntmps9
  go_wp2_with (at_builtin; refine wpList_appB rfl (.tmp 19) (.tmp 20) rfl w.heap.size w.heap.size 0 [] ps rfl (ownB_lit w _ [] #[] rfl (Nat.le_refl _) (by simp)) _ rfl (HS0.out.below (below_one _ _)) (by rw [HL0.out]; simp; omega) (by simp) ?_; intro g cap w1 hown0 hg)
  have hbl0 : Below w.heap.size w w1 := (below_one w _).grown hg (by simp) (by rintro k ⟨⟩; exact Nat.le_refl _)
  have hown : Hid (OwnB w1 w.heap.size g cap ps) := hown0
  have hbl := Lib.hid hbl0
  have HS1 : Hid (Seen w1 (.slice a1 0 c1) []) := HS1'.out.below hbl0
  have hbz := hbl0.size
  have HBS := HB0
  have HE1 : Hid (Gf.eval ps x = Gf.eval ps x ^^^ Gf.eval [] x) := by show _ = _; rw [Gf.eval_nil, Nat.xor_zero]
  have hlen' : ps.length ≤ 200 := by rw [HL0.out]; omega
  clear hown0 hg hbl0
  refine wp_loop_rounds 1 ?_
  rw [rounds_succ]
  go_wp2_with (at_builtin; refine wpList_appB rfl (.tmp 50) (.tmp 51) rfl w.heap.size w1.heap.size 1 [x] ps rfl (ownB_lit w1 _ [x] _ rfl (by omega) (by unfold maxLen; simp)) _ rfl ((HS0.out.below hbl.out).below (below_one _ _)) (by rw [HL0.out]; simp; omega) (by simp; omega) ?_; intro g2 cap2 w2 hown2 hg2)
  have hgl := hown.out.lt
  have hownS := (hown.out.kept (World.grownBy_alloc w1 _ none) (by simp)).kept hg2 (by simp; omega)
  have hb2 : Below w1.heap.size w1 w2 := (below_one w1 _).grown hg2 (by simp) (by rintro j ⟨⟩; exact Nat.le_refl _)
  have hS : Seen w2 (.slice (some ⟨g, 0, none⟩) (ps).length cap) (ps) := hownS.seen
  have hU : Seen w2 (.slice (some ⟨g2, 0, none⟩) (ps.length + 1) cap2) (x :: ps) := hown2.seen
  have hP : Seen w2 (.slice a0 l0 c0) ps := (HS0.out.below hbl.out).below hb2
  have hQ : Seen w2 (.slice a1 0 c1) (([] : List Nat)) := HS1.out.below hb2
  have hb3 := hbl.out.trans (hb2.mono hbl.out.size)
  clear hown2 hg2 hownS hb2 hgl
  refine (awake_any _).mono ?_
  rintro e w3 ⟨rfl, hb4⟩
  replace hS := hS.below hb4
  replace hU := hU.below hb4
  replace hP := hP.below hb4
  replace hQ := hQ.below hb4
  replace hb4 := hb3.trans (hb4.mono hb3.size)
  have hps : ps.length ≤ maxLen := by unfold maxLen; rw [HL0.out]; omega
  have hqs : (([] : List Nat)).length ≤ maxLen := by unfold maxLen; rw [HL1.out]; omega
  have hss : (ps).length ≤ maxLen := by unfold maxLen; omega
  have hus : (x :: ps).length ≤ maxLen := by unfold maxLen at hps ⊢; simp; rw [HL0.out]; omega
  have hub : Gf.Bytes (x :: ps) := by
    intro c hc
    rcases List.mem_cons.mp hc with rfl | hc
    · exact hx
    · exact HB0.out c hc
  have hep := Gf.eval_lt ps x HB0.out
  have heq := Gf.eval_lt (([] : List Nat)) x HB1.out
  have hgx := Gf.gm_lt x (Gf.eval ps x) hx
  have HE2 : Hid (Gf.eval (x :: ps) x = x ^^^ Gf.gm x (Gf.eval ps x)) := by
    show Gf.eval (x :: ps) x = _
    rw [Gf.eval_cons, Gf.gm_comm _ _ hep hx, Nat.xor_comm]
  have H1 := Lib.hid hps; have H2 := Lib.hid hqs; have H3 := Lib.hid hss; have H4 := Lib.hid hus
  clear hps hqs hss hus
  go_wp2_with fail
  refine (eval_seen x hS HBS.out H3.out hx).mono ?_
  rintro e w' ⟨rfl, n1, rfl⟩
  rw [HE1.out]
  go_wp2_with fail
  refine (eval_seen x (hP.drewN n1) HB0.out H1.out hx).mono ?_
  rintro e w' ⟨rfl, n2, rfl⟩
  go_wp2_with fail
  refine (eval_seen x (hQ.drewN _) HB1.out H2.out hx).mono ?_
  rintro e w' ⟨rfl, n3, rfl⟩
  go_wp2_with fail
  refine (add_any _ _ _ hep heq).mono ?_
  rintro e w' ⟨rfl, rfl⟩
  go_wp2_with fail
  refine (eval_seen x (hU.drewN _) hub H4.out hx).mono ?_
  rintro e w' ⟨rfl, n4, rfl⟩
  rw [HE2.out]
  go_wp2_with fail
  refine (eval_seen x (hP.drewN _) HB0.out H1.out hx).mono ?_
  rintro e w' ⟨rfl, n5, rfl⟩
  go_wp2_with fail
  refine (mul_any _ _ _ hx hep).mono ?_
  rintro e w' ⟨rfl, rfl⟩
  go_wp2_with fail
  refine (add_any _ _ _ hx hgx).mono ?_
  rintro e w' ⟨rfl, rfl⟩
  go_wp2
  go_ret
  exact ⟨rfl, hb4.trans ((below_drewN _ _).mono hb4.size)⟩

theorem gfPolys_walk (a0 : Option Addr) (len0 cap0 : Nat) (z0 : List Int) (a1 : Option Addr) (len1 cap1 : Nat) (z1 : List Int) (a2 : Int) (w : World) (w0 : IsRow .u8 w a0 len0 cap0 z0) (w1 : IsRow .u8 w a1 len1 cap1 z1) (w2 : (Lit.int .u8 a2).wf = true) :
    Calls Try.prog 9 #[.slice a0 len0 cap0, .slice a1 len1 cap1, .int .u8 a2] w fun e w' => e = .returned (.bool true) ∧ Below w.heap.size w w' := by
  obtain ⟨x, hx, rfl⟩ := u8_nat w2
  obtain ⟨hl0, hm0⟩ := row_len w0
  obtain ⟨hl1, hm1⟩ := row_len w1
  by_cases hlong : 200 < len0 ∨ 200 < len1
  · exact gfPolys_long a0 a1 len0 len1 cap0 cap1 x w hlong (by omega) (by omega)
  · obtain ⟨ps, hL0, hB0, hS0⟩ := seen_of w0
    obtain ⟨qs, hL1, hB1, hS1⟩ := seen_of w1
    by_cases h1 : len1 = 0
    · subst h1
      obtain rfl : qs = [] := List.length_eq_zero_iff.mp hL1
      exact gfPolys_none a0 a1 len0 cap0 cap1 x ps w hL0 (by omega) hB0 hx hS0 hS1
    · obtain ⟨qs', hL1', hB1', hC⟩ := row_of w1 len1 (Nat.le_refl _)
      obtain ⟨b, off, rfl, hD⟩ := hC (by omega)
      exact gfPolys_some a0 b off len0 len1 cap0 cap1 x ps qs' w hL0 hL1' (by omega) (by omega) (by omega) hB0 hB1' hx hS0 hD

end Go.Proofs.Ytgpbjjclbmgjeaa
