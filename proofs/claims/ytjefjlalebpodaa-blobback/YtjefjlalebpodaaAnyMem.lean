/-
  Layer 3: the reference's Same of unlike grids; lists of fragments one of whose bytes are put anew.
  Fragments of sums and of multiples, in plain numbers.
  Rows of integers of the call's own (the law RsAny's 'left'), and what appends to them run to.
-/
import Derived.Test.YtjefjlalebpodaaLaw32
import Derived.Deep.RegionLaw
namespace Go.Proofs.Ytjefjlalebpodaa
open Go.RowKit

/-- Fragments in a row of the call's own. -/
theorem frs_of {w : World} {base g cap : Nat} {fs : List Fr} {n : Nat} (hn : fs.length = n) (own : w.ownsRow base 52 2 (.slice (some ⟨g, 0, none⟩) n cap) n (fvals fs)) (seen : ∀ f ∈ fs, SeenAt w f.loc f.cap f.data) (wf : ∀ f ∈ fs, (Lit.int .i64 f.pos).wf = true) : FrsAt w (some ⟨g, 0, none⟩) cap fs := by
  rcases own.2 with ⟨hv, _⟩ | ⟨g', cap', cur, hv, _, hg, hnc, hcm, _⟩
  · cases hv
  · cases hv
    refine ⟨by rw [hn]; exact hnc, hcm, fun i hi => ⟨g, 0, rfl, ?_, ?_, seen _ (getD_mem fs i fr0 hi)⟩, wf⟩
    · rw [Nat.zero_add, World.ownsRow.cellAt own (i * 2) (by omega)]; exact fvals_pos fs i hi
    · rw [Nat.zero_add, World.ownsRow.cellAt own (i * 2 + 1) (by omega)]; exact fvals_data fs i hi

theorem fvals_set : ∀ (fs : List Fr) (c : Nat) (f : Fr), c < fs.length → f.pos = (fs.getD c fr0).pos → (fvals fs).set (c * 2 + 1) (.slice f.loc f.data.length f.cap) = fvals (fs.set c f)
  | [], c, f, h, _ => by simp at h
  | e :: fs, 0, f, _, hp => by
    have : f.pos = e.pos := hp
    simp [fvals, this]
  | e :: fs, c + 1, f, h, hp => by
    have ih := fvals_set fs c f (by simpa using h) (by simpa using hp)
    rw [show (c + 1) * 2 + 1 = c * 2 + 1 + 1 + 1 by omega]
    simp [fvals, ih]

/-- Unlike positions: each is the first. -/
theorem firsts_self (fs : List Fr) (h : (poss fs).Nodup) : firsts fs = fs := by
  have : ∀ (n : Nat), n ≤ fs.length → firsts (fs.take n) = fs.take n := by
    intro n
    induction n with
    | zero => intro _; rfl
    | succ n ih =>
      intro hn
      rw [firsts_step fs n (by omega), ih (by omega), take_snoc fs n fr0 (by omega)]
      unfold fst1
      rw [if_neg]
      intro hc
      have hc' : (fs.getD n fr0).pos ∈ (fs.take n).map (·.pos) := by simpa using hc
      have e : poss fs = (fs.take n).map (·.pos) ++ (fs.drop n).map (·.pos) := by rw [← List.map_append, List.take_append_drop]; rfl
      rw [e, List.nodup_append] at h
      refine h.2.2 _ hc' _ ?_ rfl
      rw [List.drop_eq_getElem_cons (by omega)]
      have e2 : fs.getD n fr0 = fs[n] := by rw [List.getD_eq_getElem?_getD, List.getElem?_eq_getElem (by omega)]; rfl
      rw [e2]
      exact List.mem_map.mpr ⟨fs[n], List.mem_cons_self .., rfl⟩
  have := this fs.length (Nat.le_refl _)
  rwa [List.take_of_length_le (Nat.le_refl _)] at this

end Go.Proofs.Ytjefjlalebpodaa

namespace Go.Proofs.Ytjefjlalebpodaa
open Go.RowKit

theorem lagr_add (u v z : List Nat) (x : Nat) (h1 : v.length = u.length) (h2 : z.length = u.length) (h : ∀ i, i < u.length → z.getD i 0 = u.getD i 0 ^^^ v.getD i 0) : Mt.lagr z x = Mt.lagr u x ^^^ Mt.lagr v x := by
  unfold Mt.lagr Mt.lgr
  rw [h1, h2, ← Mt.xs_xor]
  apply Mt.xs_congr
  intro i hi
  rw [h i hi, Gf.add_gm]

theorem lagr_mul (u z : List Nat) (x y : Nat) (hu : Gf.Bytes u) (hy : y < 256) (h2 : z.length = u.length) (h : ∀ i, i < u.length → z.getD i 0 = Gf.gm (u.getD i 0) y) : Mt.lagr z x = Gf.gm (Mt.lagr u x) y := by
  unfold Mt.lagr Mt.lgr
  rw [h2, Mt.xs_gm]
  apply Mt.xs_congr
  intro i hi
  have b1 := bytes_get u i hu
  have b2 := lf_lt u.length i x
  unfold lf at b2
  rw [h i hi, Gf.gm_assoc _ _ _ b1 hy b2, Gf.gm_comm y _ hy b2, ← Gf.gm_assoc _ _ _ b1 b2 hy]

/-- Row i of the sum, its first c bytes. -/
def rsum (s t : List (List Nat)) (i c : Nat) : List Nat := (List.range c).map fun q => Mt.en s i q ^^^ Mt.en t i q
theorem rsum_len (s t : List (List Nat)) (i c : Nat) : (rsum s t i c).length = c := by simp [rsum]
theorem rsum_succ (s t : List (List Nat)) (i c : Nat) : rsum s t i (c + 1) = rsum s t i c ++ [Mt.en s i c ^^^ Mt.en t i c] := by simp [rsum, List.range_succ]
theorem rsum_get (s t : List (List Nat)) (i c q : Nat) (h : q < c) : (rsum s t i c).getD q 0 = Mt.en s i q ^^^ Mt.en t i q := by simp [rsum, h]

/-- Row i times x, its first c bytes. -/
def rtim (s : List (List Nat)) (x i c : Nat) : List Nat := (List.range c).map fun q => Gf.gm (Mt.en s i q) x
theorem rtim_len (s : List (List Nat)) (x i c : Nat) : (rtim s x i c).length = c := by simp [rtim]
theorem rtim_succ (s : List (List Nat)) (x i c : Nat) : rtim s x i (c + 1) = rtim s x i c ++ [Gf.gm (Mt.en s i c) x] := by simp [rtim, List.range_succ]
theorem rtim_get (s : List (List Nat)) (x i c q : Nat) (h : q < c) : (rtim s x i c).getD q 0 = Gf.gm (Mt.en s i q) x := by simp [rtim, h]

def msum (s t : List (List Nat)) (k j : Nat) : List (List Nat) := (List.range j).map fun i => rsum s t i k
theorem msum_len (s t : List (List Nat)) (k j : Nat) : (msum s t k j).length = j := by simp [msum]
theorem msum_succ (s t : List (List Nat)) (k j : Nat) : msum s t k (j + 1) = msum s t k j ++ [rsum s t j k] := by simp [msum, List.range_succ]
theorem msum_row (s t : List (List Nat)) (k j i : Nat) (h : i < j) : (msum s t k j).getD i [] = rsum s t i k := by simp [msum, h]

def mtim (s : List (List Nat)) (x k j : Nat) : List (List Nat) := (List.range j).map fun i => rtim s x i k
theorem mtim_len (s : List (List Nat)) (x k j : Nat) : (mtim s x k j).length = j := by simp [mtim]
theorem mtim_succ (s : List (List Nat)) (x k j : Nat) : mtim s x k (j + 1) = mtim s x k j ++ [rtim s x j k] := by simp [mtim, List.range_succ]
theorem mtim_row (s : List (List Nat)) (x k j i : Nat) (h : i < j) : (mtim s x k j).getD i [] = rtim s x i k := by simp [mtim, h]

theorem msum_ev (s t : List (List Nat)) (k j : Nat) : Ev (msum s t k j) := by
  intro i hi
  rw [msum_len] at hi
  rw [msum_row s t k j i hi, msum_row s t k j 0 (by omega), rsum_len, rsum_len]

theorem mtim_ev (s : List (List Nat)) (x k j : Nat) : Ev (mtim s x k j) := by
  intro i hi
  rw [mtim_len] at hi
  rw [mtim_row s x k j i hi, mtim_row s x k j 0 (by omega), rtim_len, rtim_len]

theorem frag_sum (s t : List (List Nat)) (k l p c : Nat) (hs : s.length = l) (ht : t.length = l) (hl : 1 ≤ l) (hk : (s.getD 0 []).length = k) (hk' : (t.getD 0 []).length = k) (hc : c < k) :
    (frag (msum s t k l) p).getD c 0 = (frag s p).getD c 0 ^^^ (frag t p).getD c 0 := by
  have e0 : ((msum s t k l).getD 0 []).length = k := by rw [msum_row s t k l 0 (by omega), rsum_len]
  rw [frag_get _ p c (by rw [e0]; exact hc), frag_get s p c (by rw [hk]; exact hc), frag_get t p c (by rw [hk']; exact hc)]
  refine lagr_add _ _ _ p (by rw [colv_len, colv_len, hs, ht]) (by rw [colv_len, colv_len, hs, msum_len]) fun i hi => ?_
  rw [colv_len, hs] at hi
  rw [colv_get _ i c (by rw [msum_len]; exact hi), colv_get s i c (by omega), colv_get t i c (by omega)]
  show ((msum s t k l).getD i []).getD c 0 = _
  rw [msum_row s t k l i hi, rsum_get s t i k c hc]

theorem frag_mul (s : List (List Nat)) (x k l p c : Nat) (bs : Mt.By s) (hx : x < 256) (hs : s.length = l) (hl : 1 ≤ l) (hk : (s.getD 0 []).length = k) (hc : c < k) :
    (frag (mtim s x k l) p).getD c 0 = Gf.gm ((frag s p).getD c 0) x := by
  have e0 : ((mtim s x k l).getD 0 []).length = k := by rw [mtim_row s x k l 0 (by omega), rtim_len]
  rw [frag_get _ p c (by rw [e0]; exact hc), frag_get s p c (by rw [hk]; exact hc)]
  refine lagr_mul _ _ p x (colv_bytes s c bs) hx (by rw [colv_len, colv_len, hs, mtim_len]) fun i hi => ?_
  rw [colv_len, hs] at hi
  rw [colv_get _ i c (by rw [mtim_len]; exact hi), colv_get s i c (by omega)]
  show ((mtim s x k l).getD i []).getD c 0 = _
  rw [mtim_row s x k l i hi, rtim_get s x i k c hc]

/-- append(row, c), c laid in a new block: what it runs to. -/
theorem run_appOne (w : World) (ty : TypeId) (base g cap n B c : Nat) (ps : List Nat) (hn : ps.length = n) (hown : OwnB w base g cap ps) (hc : c < 256) (hcell : w.cell? ⟨B, 0, none⟩ = some (.int .u8 (c : Int))) (hb : n ≤ 1000000) (hbase : base ≤ w.heap.size) :
    ∃ g' cap' w', (Builtin.append_ #[22, 22] ty #[.slice (some ⟨g, 0, none⟩) n cap, .slice (some ⟨B, 0, none⟩) 1 1]).run Try.prog w = .ok (.slice (some ⟨g', 0, none⟩) (n + 1) cap') w' ∧ OwnB w' base g' cap' (ps ++ [c]) ∧ Chg [g] w w' ∧ (g' = g ∨ w.heap.size ≤ g') := by
  subst hn
  obtain ⟨i, hi, hz, hsz, hby⟩ := info8
  obtain ⟨g', cap', w', hr, h2, h3, h4, _⟩ := run_append_lies (P := Try.prog) w 22 ty base 5 i (.int .u8 0) 1 1 Try.underlying22 hi hz hsz hby rfl (by omega) (.slice (some ⟨g, 0, none⟩) ps.length cap) ps.length (vals ps) hown.own ⟨B, 0, none⟩ 1 1 (vals [c]) rfl
    (fun j u hj => by
      match j, hj with
      | 0, hj => simp [vals] at hj; subst hj; exact hcell
      | j + 1, hj => simp [vals] at hj) (vals_one [c]) (by omega) (by unfold maxLen; omega) (by omega) hbase w.heap.size rfl
  refine ⟨g', cap', w', hr, ⟨?_, bytes_app hown.byte (bytes_one c hc)⟩, Chg.of_grown h3, ?_⟩
  · rw [vals_app, List.length_append]
    exact h2
  · rcases h4 with h4 | h4
    · left; cases h4; rfl
    · right; omega

/-- An append inside a region that draws, by what it runs to. -/
theorem step_run_append {ops : Array Oper} {o : Oper} {a : Act} {w : World} {K : Act → World → Prop} {Q : Exit → Act → World → Prop} {E : Prop} (hgd : o.guard = none) (s x : Operand) (t : TypeId)
    (ho : o.op = .call { callee := .builtin .append, args := #[s, x], argTypes := #[t, t] }) (sv xv v : Value) (w' : World) (hs : a.eval s = sv) (hx : a.eval x = xv) (hrun : (Builtin.append_ #[t, t] o.type #[sv, xv]).run Try.prog w = .ok v w') (h : K (a.put o.dst v) w') :
    if Region.wanted o (yielded ops a.tmps) = true then Oper.wp Try.prog o a w K Q else E := by
  have hw : Region.wanted o (yielded ops a.tmps) = true := by simp [Region.wanted, hgd]
  rw [if_pos hw]
  unfold Oper.wp execOp
  simp only [ho, resolve, invoke, builtin, Sem.run_bind, Sem.run_pure, Result.andThen_ok, List.map_toArray, List.map_cons, List.map_nil, hs, hx, hrun]
  exact h

/-- Two matrices of the call's own. -/
structure Two (w : World) (base G1 C1 : Nat) (g1 c1 : Nat → Nat) (G2 C2 : Nat) (g2 c2 : Nat → Nat) (A B : List (List Nat)) : Prop where
  fst : OwnM w base G1 C1 g1 c1 A
  snd : OwnM w base G2 C2 g2 c2 B
  ne : G1 ≠ G2

/-- A row more for each. -/
theorem Two.push {wo wr w5 w6 : World} {base G1 C1 G2 C2 G1' C1' G2' C2' x1 y1 x2 y2 : Nat} {g1 c1 g2 c2 : Nat → Nat} {A B : List (List Nat)} {r1 r2 : List Nat} (h : Two wo base G1 C1 g1 c1 G2 C2 g2 c2 A B) (hb : Below wo.heap.size wo wr)
    (hr1 : OwnB wr base x1 y1 r1) (hr2 : OwnB wr base x2 y2 r2) (hx1 : wo.heap.size ≤ x1) (hx2 : wo.heap.size ≤ x2) (o1 o2 : Obj)
    (hC1 : Chg [G1] (wr.alloc o1) w5) (hat1 : G1' = G1 ∨ (wr.alloc o1).heap.size ≤ G1')
    (ho1 : w5.ownsRow base 22 1 (.slice (some ⟨G1', 0, none⟩) (A.length + 1) C1') (A.length + 1) (rvals g1 c1 A ++ [.slice (some ⟨x1, 0, none⟩) r1.length y1]))
    (hC2 : Chg [G2] (w5.alloc o2) w6) (hat2 : G2' = G2 ∨ (w5.alloc o2).heap.size ≤ G2')
    (ho2 : w6.ownsRow base 22 1 (.slice (some ⟨G2', 0, none⟩) (B.length + 1) C2') (B.length + 1) (rvals g2 c2 B ++ [.slice (some ⟨x2, 0, none⟩) r2.length y2])) :
    Two w6 base G1' C1' (snoc A.length x1 g1) (snoc A.length y1 c1) G2' C2' (snoc B.length x2 g2) (snoc B.length y2 c2) (A ++ [r1]) (B ++ [r2]) ∧ Chg [G1, G2] wo w6 := by
  have hG1 := h.fst.lt.2
  have hG2 := h.snd.lt.2
  have hz := hb.size
  obtain ⟨p1, q1⟩ := h.fst.pushed hb hr1 hx1 o1 hC1 ho1
  have hne2 : ∀ i, i < B.length → g2 i ≠ G1 := fun i hi => owns_ne (h.snd.row i hi).own h.fst.outer (by decide)
  have s5 : OwnM w5 base G2 C2 g2 c2 B := h.snd.chg q1 (by simp; exact fun e => h.ne e.symm) (fun i hi => by simp; exact hne2 i hi)
  have r5 : OwnB w5 base x2 y2 r2 := (hr2.chg (gs := []) ((Chg.refl _ _).alloc o1) (by simp)).chg hC1 (by simp; omega)
  have q2 : Chg [G2] w5 w6 := ((Chg.refl _ _).alloc o2).trans hC2
  have r6 : OwnB w6 base x2 y2 r2 := r5.chg q2 (by simp; omega)
  have p2 := s5.push q2 x2 y2 r2 r6 (fun i hi => by have := (h.snd.row i hi).lt.2; omega) ho2
  have hG1' : G1' ≠ G2 := by
    rcases hat1 with e | e
    · rw [e]; exact h.ne
    · simp at e; omega
  have hl1 := p1.lt.2
  refine ⟨⟨p1.chg q2 (by simpa using hG1') (fun i hi => by simp; exact owns_ne (p1.row i hi).own s5.outer (by decide)), p2, ?_⟩, (q1.mono (by simp)).trans (q2.mono (by simp))⟩
  rcases hat2 with e | e
  · rw [e]; exact hG1'
  · simp at e; omega

end Go.Proofs.Ytjefjlalebpodaa

namespace Go.Proofs.Ytjefjlalebpodaa
open Go.RowKit

def ivals (xs : List Nat) : List Value := xs.map fun (c : Nat) => .int .i64 (c : Int)
theorem ivals_len (xs : List Nat) : (ivals xs).length = xs.length := by simp [ivals]
theorem ivals_at (xs : List Nat) (i : Nat) (h : i < xs.length) : (ivals xs)[i]? = some (.int .i64 ((xs.getD i 0 : Nat) : Int)) := by simp [ivals, h]
theorem ivals_app (xs ys : List Nat) : ivals (xs ++ ys) = ivals xs ++ ivals ys := by simp [ivals]
theorem ivals_one (xs : List Nat) : ∀ u ∈ ivals xs, u.oneCell' = true := by
  intro u hu
  obtain ⟨c, _, rfl⟩ := List.mem_map.mp hu
  rfl

set_option maxRecDepth 100000 in
theorem infoI : ∃ i, Try.prog.info? 3 = some i ∧ i.zero = some (.int .i64 0) ∧ i.size = 1 ∧ i.bytes = 8 := ⟨_, rfl, by kernel_rfl, by kernel_rfl, by kernel_rfl⟩

/-- A row of integers of the call's own. -/
def OwnI (w : World) (base g cap : Nat) (xs : List Nat) : Prop := w.ownsRow base 3 1 (.slice (some ⟨g, 0, none⟩) xs.length cap) xs.length (ivals xs)

theorem OwnI.lt {w : World} {base g cap : Nat} {xs : List Nat} (h : OwnI w base g cap xs) : base ≤ g ∧ g < w.heap.size := World.ownsRow.lt h g rfl
theorem OwnI.cell {w : World} {base g cap : Nat} {xs : List Nat} (h : OwnI w base g cap xs) (i : Nat) (hi : i < xs.length) : w.cell? ⟨g, i, none⟩ = some (.int .i64 ((xs.getD i 0 : Nat) : Int)) := by
  rw [World.ownsRow.cellAt h i (by omega)]; exact ivals_at xs i hi
theorem OwnI.cap_le {w : World} {base g cap : Nat} {xs : List Nat} (h : OwnI w base g cap xs) : xs.length ≤ cap ∧ cap ≤ maxLen := by
  obtain ⟨_, _, h1, h2, _, _⟩ := heap_of_owns h
  exact ⟨h1, h2⟩
theorem OwnI.chg {gs : List Nat} {w w' : World} {base g cap : Nat} {xs : List Nat} (h : OwnI w base g cap xs) (hb : Chg gs w w') (hn : g ∉ gs) : OwnI w' base g cap xs := hb.owns h (by rintro k ⟨⟩; exact hn)
theorem OwnI.below {w w' : World} {base g cap : Nat} {xs : List Nat} (h : OwnI w base g cap xs) (hb : Below w.heap.size w w') : OwnI w' base g cap xs := h.chg (gs := []) (Chg.of_below hb) (by simp)
theorem ownI_none (w : World) (base : Nat) (hb : base ≤ w.heap.size) : OwnI (w.alloc (.cells #[] 3)) base w.heap.size 0 [] :=
  World.ownsRow_lit (base := base) (e := 3) (size := 1) w #[] 0 hb (by unfold maxLen; omega) rfl

/-- append(row, source...): what it runs to. -/
theorem run_appI (w : World) (ty : TypeId) (base g cap n q B off xc : Nat) (xs ys : List Nat) (hn : xs.length = n) (hq : ys.length = q) (hown : OwnI w base g cap xs) (hsrc : ∀ j, j < q → w.cell? ⟨B, off + j, none⟩ = some (.int .i64 ((ys.getD j 0 : Nat) : Int))) (hb : n + q ≤ 1000000) (hbase : base ≤ w.heap.size) :
    ∃ g' cap' w', (Builtin.append_ #[29, 29] ty #[.slice (some ⟨g, 0, none⟩) n cap, .slice (some ⟨B, off, none⟩) q xc]).run Try.prog w = .ok (.slice (some ⟨g', 0, none⟩) (n + q) cap') w' ∧ OwnI w' base g' cap' (xs ++ ys) ∧ Chg [g] w w' ∧ (g' = g ∨ w.heap.size ≤ g') := by
  subst hn hq
  obtain ⟨i, hi, hz, hsz, hby⟩ := infoI
  by_cases h0 : ys = []
  · subst h0
    refine ⟨g, cap, w, ?_, by rw [List.append_nil]; exact hown, Chg.refl _ _, .inl rfl⟩
    have hc := hown.cap_le.1
    simp [Builtin.append_, run_underlying Try.underlying29, sizeOf, typeInfo, hi, Builtin.lenOf, Builtin.firstCells, hc, storeCells, loadCells, loadCellsFrom]
  · have hpos : 0 < ys.length := by cases ys with | nil => exact absurd rfl h0 | cons c q => simp
    obtain ⟨g', cap', w', hr, h2, h3, h4, _⟩ := run_append_lies (P := Try.prog) w 29 ty base 3 i (.int .i64 0) 1 8 Try.underlying29 hi hz hsz hby rfl (by omega) (.slice (some ⟨g, 0, none⟩) xs.length cap) xs.length (ivals xs) hown ⟨B, off, none⟩ ys.length xc (ivals ys) (by rw [ivals_len]; omega)
      (fun j u hj => by
        have hl : j < ys.length := by
          rcases Nat.lt_or_ge j ys.length with hlt | hge
          · exact hlt
          · rw [List.getElem?_eq_none (by rw [ivals_len]; exact hge)] at hj; cases hj
        rw [ivals_at ys j hl] at hj
        rw [← hj, Go.WideShapes.add_plain]
        exact hsrc j hl) (ivals_one ys) hpos (by unfold maxLen; omega) (by omega) hbase w.heap.size rfl
    refine ⟨g', cap', w', hr, ?_, Chg.of_grown h3, ?_⟩
    · show w'.ownsRow _ _ _ _ _ _
      rw [ivals_app, List.length_append]
      exact h2
    · rcases h4 with h4 | h4
      · left; cases h4; rfl
      · right; omega

/-- append(list, f): what it runs to. -/
theorem run_appF {w0 : World} (w : World) (ty : TypeId) (v : Value) (fs : List Fr) (n B : Nat) (f : Fr) (hn : fs.length = n) (hown : OldF w0 w v fs) (hf : SeenAt w0 f.loc f.cap f.data) (hw : (Lit.int .i64 f.pos).wf = true)
    (h0 : w.cell? ⟨B, 0, none⟩ = some (.int .i64 f.pos)) (h1 : w.cell? ⟨B, 1, none⟩ = some (.slice f.loc f.data.length f.cap)) (hb : n ≤ 1000000) (hbase : w0.heap.size ≤ w.heap.size) :
    ∃ g' cap' w', (Builtin.append_ #[50, 50] ty #[v, .slice (some ⟨B, 0, none⟩) 1 1]).run Try.prog w = .ok (.slice (some ⟨g', 0, none⟩) (n + 1) cap') w' ∧ OldF w0 w' (.slice (some ⟨g', 0, none⟩) (n + 1) cap') (fs ++ [f]) ∧ w.grownBy w' v.ownBlock ∧ (v.ownBlock = some g' ∨ w.heap.size ≤ g') := by
  obtain ⟨i, hi, hz, hsz, hby⟩ := info_parts infoF
  subst hn
  obtain ⟨g', cap', w', hr, h2, h3, h4, _⟩ := run_append_lies (P := Try.prog) w 50 ty w0.heap.size 52 i _ 2 32 Try.underlying50 hi hz hsz hby rfl (by omega) v fs.length (fvals fs) hown.own ⟨B, 0, none⟩ 1 1 [.int .i64 f.pos, .slice f.loc f.data.length f.cap] rfl
    (fun j u hj => by
      match j, hj with
      | 0, hj => simp at hj; subst hj; exact h0
      | 1, hj => simp at hj; subst hj; exact h1
      | j + 2, hj => simp at hj) (by simp [Value.oneCell']) (by omega) (by unfold maxLen; omega) (by omega) hbase w.heap.size rfl
  refine ⟨g', cap', w', hr, ⟨?_, fun e he => ?_, fun e he => ?_⟩, h3, ?_⟩
  · rw [List.length_append, List.length_singleton, fvals_app]
    exact h2
  · rcases List.mem_append.mp he with he | he
    · exact hown.seen e he
    · rw [List.mem_singleton.mp he]; exact hf
  · rcases List.mem_append.mp he with he | he
    · exact hown.wf e he
    · rw [List.mem_singleton.mp he]; exact hw
  · rcases h4 with h4 | h4
    · exact .inl h4
    · exact .inr (by omega)

end Go.Proofs.Ytjefjlalebpodaa
