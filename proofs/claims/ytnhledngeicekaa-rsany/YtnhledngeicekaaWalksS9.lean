/-
  Layer 3: the shards behind fragments, in plain numbers; rs.Rebuild.
-/
import Derived.Test.YtnhledngeicekaaWalksS8
namespace Go.Proofs.Ytnhledngeicekaa
open Go.RowKit

theorem Chosen.by {w : World} {a : Option Addr} {cap k n L : Nat} {ch : List Fr} (h : FrsAt w a cap ch) (hl : ch.length = k) (_ : Chosen k n L ch) : Mt.By (dats ch) := by
  intro i
  by_cases hi : i < ch.length
  · obtain ⟨_, _, _, _, _, hs⟩ := h.el i hi
    rw [dats_row ch i hi]; exact hs.byte
  · rw [show (dats ch).getD i [] = [] by rw [List.getD_eq_getElem?_getD, List.getElem?_eq_none (by rw [dats_len]; omega)]; rfl]
    exact bytes_nil

theorem npos_lt {k n L : Nat} {ch : List Fr} (h : Chosen k n L ch) : ∀ p ∈ nposs ch, p < n := by
  intro p hp
  obtain ⟨f, hf, rfl⟩ := List.mem_map.mp hp
  have := h.pos f hf
  omega

/-- The shards behind the fragments: as many as k, as wide as the fragments. -/
theorem Behind.shape {k n L : Nat} {ch : List Fr} {S : List (List Nat)} (h : Behind k n ch S) (hc : Chosen k n L ch) (hk : 0 < k) : S.length = k ∧ ∀ i, i < k → (S.getD i []).length = L := by
  obtain ⟨C, X, hC, sX, iX, rfl⟩ := h
  refine ⟨by rw [mprod_len, sX.len], fun i hi => ?_⟩
  rw [mprod_row _ _ i (by rw [sX.len]; exact hi), hc.row 0 hk]

theorem Behind.ev {k n L : Nat} {ch : List Fr} {S : List (List Nat)} (h : Behind k n ch S) (hc : Chosen k n L ch) (hk : 0 < k) : Ev S := by
  obtain ⟨h1, h2⟩ := h.shape hc hk
  intro i hi
  rw [h2 i (by omega), h2 0 hk]

/-- Their fragments at the chosen positions are the chosen ones. -/
theorem Behind.frag {k n L : Nat} {ch : List Fr} {S : List (List Nat)} (h : Behind k n ch S) (hc : Chosen k n L ch) (hk : 0 < k) (bd : Mt.By (dats ch)) (i : Nat) (hi : i < k) : frag S (ch.getD i fr0).pos.toNat = (ch.getD i fr0).data := by
  have hsh := h.shape hc hk
  have hil : i < ch.length := by rw [hc.len]; exact hi
  obtain ⟨C, X, hC, sX, iX, rfl⟩ := h
  by_cases hL : L = 0
  · have e1 : (Go.Proofs.Ytnhledngeicekaa.frag (mprod X (dats ch)) (ch.getD i fr0).pos.toNat).length = 0 := by rw [frag_len, hsh.2 0 hk, hL]
    have e2 : (ch.getD i fr0).data.length = 0 := by rw [hc.dat _ (getD_mem ch i fr0 hil), hL]
    rw [List.eq_nil_of_length_eq_zero e1, List.eq_nil_of_length_eq_zero e2]
  · have := code_back k n L C X (dats ch) (nposs ch) hC hk (by rw [nposs_len, hc.len]) (npos_lt hc) sX iX (by rw [dats_len, hc.len]) (fun q hq => hc.row q hq) (by omega) bd i hi
    rw [nposs_get ch i hil, dats_row ch i hil] at this
    exact this

/-- Whoever has these fragments at these positions is the shards behind them. -/
theorem Behind.only {k n L : Nat} {ch : List Fr} {S T : List (List Nat)} (h : Behind k n ch S) (hc : Chosen k n L ch) (hk : 0 < k) (bd : Mt.By (dats ch)) (hT : T.length = k) (hr : ∀ i, i < k → (T.getD i []).length = L) (bT : Mt.By T)
    (hf : ∀ i, i < k → Go.Proofs.Ytnhledngeicekaa.frag T (ch.getD i fr0).pos.toNat = (ch.getD i fr0).data) : S = T := by
  have hsh := h.shape hc hk
  obtain ⟨C, X, hC, sX, iX, rfl⟩ := h
  by_cases hL : L = 0
  · refine getD_congr _ _ [] (by rw [hsh.1, hT]) fun i hi => ?_
    rw [hsh.1] at hi
    have e1 := hsh.2 i hi
    have e2 := hr i hi
    rw [hL] at e1 e2
    rw [List.eq_nil_of_length_eq_zero e1, List.eq_nil_of_length_eq_zero e2]
  · have sdd : Sd (dats ch) := ⟨by rw [dats_len, hc.len]; exact hk, by rw [hc.row 0 hk]; omega, hc.ev⟩
    refine mat_congr _ _ L (by rw [hsh.1, hT]) (fun i hi => hsh.2 i (by rw [hsh.1] at hi; exact hi)) (fun i hi => hr i (by rw [hsh.1] at hi; exact hi)) fun i hi j hj => ?_
    rw [hsh.1] at hi
    have hx := (iX (fun l => Mt.en T l j) (fun l => Mt.en (dats ch) l j) (fun l => bT.lt l j) (fun l => bd.lt l j)).mp (fun q hq => by
      have hql : q < ch.length := by rw [hc.len]; exact hq
      have hpq := hc.pos _ (getD_mem ch q fr0 hql)
      have e1 : Mt.en (dats ch) q j = (Go.Proofs.Ytnhledngeicekaa.frag T (ch.getD q fr0).pos.toNat).getD j 0 := by
        unfold Mt.en
        rw [dats_row ch q hql, hf q hq]
      show _ = Mt.en (dats ch) q j
      rw [e1, frag_get T _ j (by rw [hr 0 hk]; exact hj), lagr_xs _ _ (colv_bytes T j bT), colv_len, hT, crows_row C ch q hql]
      unfold Mt.dot
      apply Mt.xs_congr
      intro l hl
      rw [← hC.val _ (by omega) l hl, colv_get T l j (by omega)]
      rfl) i hi
    rw [mprod_en X (dats ch) sdd sX.byte bd i j (by rw [sX.len]; exact hi), dats_len, hc.len]
    exact hx.symm

theorem GridAt.alike {w w' : World} {a : Option Addr} {cap : Nat} {m : List (List Nat)} (h : GridAt w a cap m) (e : w'.heap = w.heap) : GridAt w' a cap m :=
  ⟨h.le, h.max, fun i hi => by
    obtain ⟨b, off, r, e1, hc, ra, rc, er, hs⟩ := h.row i hi
    exact ⟨b, off, r, e1, by rw [← hc]; simp [World.cell?, e], ra, rc, er, hs.alike e⟩⟩

/-- One row of a grid, as a slice of one. -/
theorem GridAt.one {w : World} {b off cap : Nat} {m : List (List Nat)} (h : GridAt w (some ⟨b, off, none⟩) cap m) (i : Nat) (hi : i < m.length) : GridAt w (some ⟨b, off + i, none⟩) (cap - i) [m.getD i []] := by
  have hle := h.le
  have hmx := h.max
  refine ⟨by simp; omega, by omega, fun j hj => ?_⟩
  have : j = 0 := by simpa using hj
  subst this
  obtain ⟨b', off', r, e, hc, hs⟩ := h.row i hi
  cases e
  exact ⟨b, off + i, r, rfl, hc, hs⟩

theorem below_same {B : Nat} {w a b : World} (h : Below B w a) (e1 : b.os = a.os) (e2 : b.tape = a.tape) (e3 : b.output = a.output) (e4 : b.heap = a.heap) : Below B w b :=
  ⟨e1.trans h.os, e2.trans h.tape, e3.trans h.output, by rw [e4]; exact h.size, fun k hk => by rw [e4]; exact h.block k hk⟩

theorem below_via {B : Nat} {w a b c : World} (k : Below b.heap.size b c) (h : Below B w a) (hB : B ≤ a.heap.size) (e1 : b.os = a.os) (e2 : b.tape = a.tape) (e3 : b.output = a.output) (e4 : b.heap = a.heap) : Below B w c :=
  (below_same h e1 e2 e3 e4).trans (k.mono (by rw [e4]; exact hB))

theorem GridAt.via {a b c : World} {ad : Option Addr} {cap : Nat} {m : List (List Nat)} (k : Below b.heap.size b c) (h : GridAt a ad cap m) (e : b.heap = a.heap) : GridAt c ad cap m := (h.alike e).below k

theorem slice_one (G n C p : Nat) (hp : p < C) (w : World) : (Instr.slice 22 (.slice (some ⟨G, 0, none⟩) n C) (some (.int .i64 (p : Int))) (some (.int .i64 ((p : Int) + 1))) none).run Try.prog w = .ok (.slice (some ⟨G, p, none⟩) 1 (C - p)) w := by
  rw [run_slice_lh w 22 (some ⟨G, 0, none⟩) n C (by kernel_rfl) .i64 .i64 (p : Int) ((p : Int) + 1) (by omega) (by omega) (by omega)]
  have hs : (sizeOf (Try.prog.elem 22)).run Try.prog w = .ok 1 w := by kernel_rfl
  rw [hs]
  simp only [Result.andThen, sliced]
  rw [if_neg (by omega)]
  simp [Addr.add]
  omega

theorem slice_one' (G n C p : Nat) (hp : p < C) (w : World) : (Instr.sliceAt 22 (.slice (some ⟨G, 0, none⟩) n C) (some (.int .i64 (p : Int))) (some (.int .i64 ((p : Int) + 1))) none).run Try.prog w = .ok (.slice (some ⟨G, p, none⟩) 1 (C - p)) w := by
  rw [run_sliceAt_slice w 22 _ _ _ _ (by kernel_rfl)]
  exact slice_one G n C p hp w

theorem reb_no (k m p : Int) (v : Value) (w : World) (hk : (Lit.int .i64 k).wf = true) (h : ¬ May k m) :
    Calls Try.prog 20 #[.int .i64 k, .int .i64 m, .int .i64 p, v] w fun e w' => e = .returned (.tuple #[.slice none 0 0, .int .i64 3]) ∧ w = w' := by
  have HN := Lib.hid (fun w => choose_no k m v w hk h)
  clear hk h
  go_enter Try.func20, Try.ntmps20
  go_wp2_with fail
  refine (HN.out _).mono ?_
  rintro e w' ⟨rfl, rfl⟩
  go_wp2
  go_ret2
  exact ⟨rfl, rfl⟩

/-- What Rebuild hands back where the code is one and pos is none of its positions. -/
def RebNone (w : World) (k n : Nat) (fs : List Fr) (e : Ending) (w' : World) : Prop :=
  Below w.heap.size w w' ∧
  ((¬ Good n fs ∧ e = .returned (.tuple #[.slice none 0 0, .int .i64 2])) ∨
   (Good n fs ∧ (firsts fs).length < k ∧ e = .returned (.tuple #[.slice none 0 0, .int .i64 10])) ∨
   (Good n fs ∧ k ≤ (firsts fs).length ∧ e = .returned (.tuple #[.slice none 0 0, .int .i64 4])))


set_option maxRecDepth 100000 in
set_option maxHeartbeats 2000000 in
theorem reb_none (p : Int) (fa : Option Addr) (fc l k m n : Nat) (fs : List Fr) (w : World) (hF : FrsAt w fa fc fs) (hl : fs.length = l) (hl2 : l ≤ 100000000) (hk : 1 ≤ k) (hn : k + m = n) (hn2 : n ≤ 255) (hp : ¬ (0 ≤ p ∧ p < (n : Int))) :
    Calls Try.prog 20 #[.int .i64 (k : Int), .int .i64 (m : Int), .int .i64 p, .slice fa l fc] w (RebNone w k n fs) := by
  have HCH := Lib.hid (fun w => fun h => choose_any fa fc l k m n fs w h hl hl2 hk hn hn2)
  have HIP := Lib.hid (isPos_no p k m n (by omega) (by omega) hn hp)
  have HF := Lib.hid hF
  clear hF hl hn hp
  go_enter Try.func20, Try.ntmps20
  go_wp2_with fail
  refine (HCH.out _ HF.out).mono ?_
  rintro e w1 ⟨hb1, ⟨hg, rfl⟩ | ⟨hg, hf, rfl⟩ | ⟨hg, hf, a, cap, rfl, hA⟩⟩
  · go_wp2
    go_ret2
    exact ⟨hb1, .inl ⟨hg, rfl⟩⟩
  · have HFW := Lib.hid hf
    clear hf
    go_wp2
    go_ret2
    exact ⟨hb1, .inr (.inl ⟨hg, HFW.out, rfl⟩)⟩
  · have HFW := Lib.hid hf
    have HGO := Lib.hid hg
    clear hf hA hg
    go_wp2_with fail
    refine (HIP.out _).mono ?_
    rintro e w' ⟨rfl, rfl⟩
    go_wp2
    go_ret2
    exact ⟨hb1, .inr (.inr ⟨HGO.out, HFW.out, rfl⟩)⟩

/-- What Rebuild hands back where the code is one and p is one of its positions. -/
def RebPost (w : World) (k n p : Nat) (fs : List Fr) (e : Ending) (w' : World) : Prop :=
  Below w.heap.size w w' ∧
  ((¬ Good n fs ∧ e = .returned (.tuple #[.slice none 0 0, .int .i64 2])) ∨
   (Good n fs ∧ (firsts fs).length < k ∧ e = .returned (.tuple #[.slice none 0 0, .int .i64 10])) ∨
   (Good n fs ∧ k ≤ (firsts fs).length ∧ ∃ S a cap, e = .returned (.tuple #[.slice a (Go.Proofs.Ytnhledngeicekaa.frag S p).length cap, .int .i64 0]) ∧ SeenAt w' a cap (Go.Proofs.Ytnhledngeicekaa.frag S p) ∧ Behind k n ((firsts fs).take k) S))

theorem code_one (k n p : Nat) (C S : List (List Nat)) (hC : CodeOK k n C) (hk : 0 < k) (hp : p < n) (hS : S.length = k) (eS : Ev S) (bS : Mt.By S) : (mprod [C.getD p []] S).getD 0 [] = Go.Proofs.Ytnhledngeicekaa.frag S p := by
  rw [mprod_at _ _ 0 (by simp)]
  have := mprod_at C S p (by rw [hC.len]; exact hp)
  rw [code_frags' k n C S hC hk hS eS bS, frags_row S n p hp] at this
  exact this.symm

set_option maxRecDepth 100000 in
set_option maxHeartbeats 4000000 in
theorem reb_any (p : Nat) (fa : Option Addr) (fc l k m n : Nat) (fs : List Fr) (w : World) (hF : FrsAt w fa fc fs) (hl : fs.length = l) (hl2 : l ≤ 100000000) (hk : 1 ≤ k) (hn : k + m = n) (hn2 : n ≤ 255) (hp : p < n) (hw : (fs.getD 0 fr0).data.length ≤ 1000000000) :
    Calls Try.prog 20 #[.int .i64 (k : Int), .int .i64 (m : Int), .int .i64 (p : Int), .slice fa l fc] w (RebPost w k n p fs) := by
  have HCH := Lib.hid (fun w => fun h => choose_any fa fc l k m n fs w h hl hl2 hk hn hn2)
  have HCM := Lib.hid (fun w => codeMatrix_any k m n w hk hn hn2)
  have HIP := Lib.hid (isPos_yes (p : Int) k m n (by omega) (by omega) hn (by omega))
  have HF := Lib.hid hF
  have HW := Lib.hid hw
  have hkn : k ≤ n := by omega
  clear hF hl hn hw
  go_enter Try.func20, Try.ntmps20
  go_wp2_with fail
  refine (HCH.out _ HF.out).mono ?_
  rintro e w1 ⟨hb1, ⟨hg, rfl⟩ | ⟨hg, hf, rfl⟩ | ⟨hg, hf, a, cap, rfl, hA⟩⟩
  · go_wp2
    go_ret2
    exact ⟨hb1, .inl ⟨hg, rfl⟩⟩
  · have HFW := Lib.hid hf
    clear hf
    go_wp2
    go_ret2
    exact ⟨hb1, .inr (.inl ⟨hg, HFW.out, rfl⟩)⟩
  · have HCO := Lib.hid (chosen_of hg hf)
    have HGO := Lib.hid hg
    have HFW := Lib.hid hf
    have HA := Lib.hid hA
    have HB1 := Lib.hid hb1
    clear hg hf hA hb1
    go_wp2_with fail
    refine (HIP.out _).mono ?_
    rintro e w' ⟨rfl, rfl⟩
    go_wp2_with fail
    refine (HCM.out _).mono ?_
    rintro e w2 ⟨C, hC, hCl, G, Cc, g, c, rfl, hO, hb⟩
    have HC := Lib.hid hC
    have hcc := hO.cap_le.1
    have hcm := hO.cap_le.2
    rw [hCl] at hcc
    unfold maxLen at hcm
    have HO := Lib.hid hO.gridAt
    have HCL := Lib.hid hCl
    have HB2 := Lib.hid (HB1.out.trans (hb.mono HB1.out.size))
    have HA2 := Lib.hid (HA.out.below hb)
    have HBD := Lib.hid (HCO.out.by HA.out HCO.out.len)
    clear hC hCl hO hb
    have hsl := slice_one G n Cc p (by omega)
    have hsl' := slice_one' G n Cc p (by omega)
    have qa : (0 : Int) ≤ (p : Int) := by omega
    have qb : (p : Int) ≤ (p : Int) + 1 := by omega
    have qc : (p : Int) + 1 ≤ (Cc : Int) := by omega
    have qd : Cc ≠ p := by omega
    have qe : ¬ Cc = p := by omega
    have qf : (0 : Int) ≤ (p : Int) + 1 := by omega
    go_wp2
    have hwr : IntKind.i64.wrap ((p : Int) + 1) = (p : Int) + 1 := IntWalk.i64_in _ (by omega)
    go_region_with (first | (go_at_call 30; (refine (restored_any _ _ _ _ n k C ((firsts fs).take k) _ HC.out ?_ ?_ HCO.out.len hk hkn hn2 HCO.out.pos HCO.out.nodup HCO.out.ev (by rw [HCO.out.row 0 (by omega)]; exact HW.out)).mono ?_; (exact HO.out.alike rfl); (exact HA2.out.alike rfl); rintro e w3 ⟨X, sX, iX, hyl, aY, cY, rfl, hY, hb3⟩; have HB3 := Lib.hid (below_via hb3 HB2.out HB2.out.size rfl rfl rfl rfl); have HBE : Hid (Behind k n ((firsts fs).take k) (mprod X (dats ((firsts fs).take k)))) := ⟨C, X, HC.out, sX, iX, rfl⟩; have HY := Lib.hid hY; have HYL := Lib.hid hyl; have HO3 := Lib.hid (GridAt.via hb3 HO.out rfl); clear hY hyl hb3 sX iX)) | (go_at_call 28; (refine (combined_any _ _ _ _ 1 k [C.getD p []] (mprod X (dats ((firsts fs).take k))) _ ?_ ?_ rfl HYL.out (by omega) (by omega) ⟨by simp, by show 0 < (C.getD p []).length; rw [HC.out.row p hp]; omega, fun i hi => by have : i = 0 := (by simpa using hi); subst this; rfl⟩ (HC.out.row p hp) (HBE.out.ev HCO.out (by omega)) (by rw [(HBE.out.shape HCO.out (by omega)).2 0 (by omega)]; exact HW.out)).mono ?_; (have := HO3.out.one p (by rw [HCL.out]; exact hp); rw [Nat.zero_add] at this; exact this.alike rfl); (exact HY.out.alike rfl); rintro e w4 ⟨hzl, aZ, cZ, rfl, hZ, hb4⟩; obtain ⟨bz, offz, rz, rcz, e, hcz, hSz⟩ := hZ.at 0 (by rw [hzl]; omega); subst e; rw [Nat.add_zero, code_one k n p C _ HC.out (by omega) hp HYL.out (HBE.out.ev HCO.out (by omega)) HY.out.by] at hcz; rw [code_one k n p C _ HC.out (by omega) hp HYL.out (HBE.out.ev HCO.out (by omega)) HY.out.by] at hSz; have HSZ := Lib.hid hSz; have HB4 := Lib.hid (below_via hb4 HB3.out HB3.out.size rfl rfl rfl rfl); clear hZ hzl hSz hb4)))
    all_goals go_wp2
    all_goals go_ret2
    all_goals exact ⟨below_same HB4.out rfl rfl rfl rfl, .inr (.inr ⟨HGO.out, HFW.out, _, _, _, rfl, HSZ.out.alike rfl, HBE.out⟩)⟩

end Go.Proofs.Ytnhledngeicekaa
