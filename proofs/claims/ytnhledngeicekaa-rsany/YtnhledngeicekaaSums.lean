/-
  Fragments of sums and of multiples, in plain numbers.
-/
import Derived.Test.YtnhledngeicekaaLaw32
import Derived.Deep.RegionLaw
namespace Go.Proofs.Ytnhledngeicekaa
open Go.RowKit

theorem lagr_add (u v z : List Nat) (x : Nat) (h1 : v.length = u.length) (h2 : z.length = u.length) (h : ∀ i, i < u.length → z.getD i 0 = u.getD i 0 ^^^ v.getD i 0) : Mt.lagr z x = Mt.lagr u x ^^^ Mt.lagr v x := by
  unfold Mt.lagr Mt.lgr
  rw [h1, h2, ← Mt.xs_xor]
  apply Mt.xs_congr
  intro i hi
  rw [h i hi, Gf.add_gm]

theorem lagr_mul (u z : List Nat) (x y : Nat) (hu : Gf.Bytes u) (hy : y < 256) (h2 : z.length = u.length) (h : ∀ i, i < u.length → z.getD i 0 = Gf.gm (u.getD i 0) y) : Mt.lagr z x = Gf.gm (Mt.lagr u x) y := by
  unfold Mt.lagr Mt.lgr
  rw [h2, Mt.xs_gm]
  apply Mt.xs_congr
  intro i hi
  have b1 := bytes_get u i hu
  have b2 := lf_lt u.length i x
  unfold lf at b2
  rw [h i hi, Gf.gm_assoc _ _ _ b1 hy b2, Gf.gm_comm y _ hy b2, ← Gf.gm_assoc _ _ _ b1 b2 hy]

/-- Row i of the sum, its first c bytes. -/
def rsum (s t : List (List Nat)) (i c : Nat) : List Nat := (List.range c).map fun q => Mt.en s i q ^^^ Mt.en t i q
theorem rsum_len (s t : List (List Nat)) (i c : Nat) : (rsum s t i c).length = c := by simp [rsum]
theorem rsum_succ (s t : List (List Nat)) (i c : Nat) : rsum s t i (c + 1) = rsum s t i c ++ [Mt.en s i c ^^^ Mt.en t i c] := by simp [rsum, List.range_succ]
theorem rsum_get (s t : List (List Nat)) (i c q : Nat) (h : q < c) : (rsum s t i c).getD q 0 = Mt.en s i q ^^^ Mt.en t i q := by simp [rsum, h]

/-- Row i times x, its first c bytes. -/
def rtim (s : List (List Nat)) (x i c : Nat) : List Nat := (List.range c).map fun q => Gf.gm (Mt.en s i q) x
theorem rtim_len (s : List (List Nat)) (x i c : Nat) : (rtim s x i c).length = c := by simp [rtim]
theorem rtim_succ (s : List (List Nat)) (x i c : Nat) : rtim s x i (c + 1) = rtim s x i c ++ [Gf.gm (Mt.en s i c) x] := by simp [rtim, List.range_succ]
theorem rtim_get (s : List (List Nat)) (x i c q : Nat) (h : q < c) : (rtim s x i c).getD q 0 = Gf.gm (Mt.en s i q) x := by simp [rtim, h]

def msum (s t : List (List Nat)) (k j : Nat) : List (List Nat) := (List.range j).map fun i => rsum s t i k
theorem msum_len (s t : List (List Nat)) (k j : Nat) : (msum s t k j).length = j := by simp [msum]
theorem msum_succ (s t : List (List Nat)) (k j : Nat) : msum s t k (j + 1) = msum s t k j ++ [rsum s t j k] := by simp [msum, List.range_succ]
theorem msum_row (s t : List (List Nat)) (k j i : Nat) (h : i < j) : (msum s t k j).getD i [] = rsum s t i k := by simp [msum, h]

def mtim (s : List (List Nat)) (x k j : Nat) : List (List Nat) := (List.range j).map fun i => rtim s x i k
theorem mtim_len (s : List (List Nat)) (x k j : Nat) : (mtim s x k j).length = j := by simp [mtim]
theorem mtim_succ (s : List (List Nat)) (x k j : Nat) : mtim s x k (j + 1) = mtim s x k j ++ [rtim s x j k] := by simp [mtim, List.range_succ]
theorem mtim_row (s : List (List Nat)) (x k j i : Nat) (h : i < j) : (mtim s x k j).getD i [] = rtim s x i k := by simp [mtim, h]

theorem msum_ev (s t : List (List Nat)) (k j : Nat) : Ev (msum s t k j) := by
  intro i hi
  rw [msum_len] at hi
  rw [msum_row s t k j i hi, msum_row s t k j 0 (by omega), rsum_len, rsum_len]

theorem mtim_ev (s : List (List Nat)) (x k j : Nat) : Ev (mtim s x k j) := by
  intro i hi
  rw [mtim_len] at hi
  rw [mtim_row s x k j i hi, mtim_row s x k j 0 (by omega), rtim_len, rtim_len]

theorem frag_sum (s t : List (List Nat)) (k l p c : Nat) (hs : s.length = l) (ht : t.length = l) (hl : 1 ≤ l) (hk : (s.getD 0 []).length = k) (hk' : (t.getD 0 []).length = k) (hc : c < k) :
    (frag (msum s t k l) p).getD c 0 = (frag s p).getD c 0 ^^^ (frag t p).getD c 0 := by
  have e0 : ((msum s t k l).getD 0 []).length = k := by rw [msum_row s t k l 0 (by omega), rsum_len]
  rw [frag_get _ p c (by rw [e0]; exact hc), frag_get s p c (by rw [hk]; exact hc), frag_get t p c (by rw [hk']; exact hc)]
  refine lagr_add _ _ _ p (by rw [colv_len, colv_len, hs, ht]) (by rw [colv_len, colv_len, hs, msum_len]) fun i hi => ?_
  rw [colv_len, hs] at hi
  rw [colv_get _ i c (by rw [msum_len]; exact hi), colv_get s i c (by omega), colv_get t i c (by omega)]
  show ((msum s t k l).getD i []).getD c 0 = _
  rw [msum_row s t k l i hi, rsum_get s t i k c hc]

theorem frag_mul (s : List (List Nat)) (x k l p c : Nat) (bs : Mt.By s) (hx : x < 256) (hs : s.length = l) (hl : 1 ≤ l) (hk : (s.getD 0 []).length = k) (hc : c < k) :
    (frag (mtim s x k l) p).getD c 0 = Gf.gm ((frag s p).getD c 0) x := by
  have e0 : ((mtim s x k l).getD 0 []).length = k := by rw [mtim_row s x k l 0 (by omega), rtim_len]
  rw [frag_get _ p c (by rw [e0]; exact hc), frag_get s p c (by rw [hk]; exact hc)]
  refine lagr_mul _ _ p x (colv_bytes s c bs) hx (by rw [colv_len, colv_len, hs, mtim_len]) fun i hi => ?_
  rw [colv_len, hs] at hi
  rw [colv_get _ i c (by rw [mtim_len]; exact hi), colv_get s i c (by omega)]
  show ((mtim s x k l).getD i []).getD c 0 = _
  rw [mtim_row s x k l i hi, rtim_get s x i k c hc]

/-- append(row, c), c laid in a new block: what it runs to. -/
theorem run_appOne (w : World) (ty : TypeId) (base g cap n B c : Nat) (ps : List Nat) (hn : ps.length = n) (hown : OwnB w base g cap ps) (hc : c < 256) (hcell : w.cell? ⟨B, 0, none⟩ = some (.int .u8 (c : Int))) (hb : n ≤ 1000000) (hbase : base ≤ w.heap.size) :
    ∃ g' cap' w', (Builtin.append_ #[28, 28] ty #[.slice (some ⟨g, 0, none⟩) n cap, .slice (some ⟨B, 0, none⟩) 1 1]).run Try.prog w = .ok (.slice (some ⟨g', 0, none⟩) (n + 1) cap') w' ∧ OwnB w' base g' cap' (ps ++ [c]) ∧ Chg [g] w w' ∧ (g' = g ∨ w.heap.size ≤ g') := by
  subst hn
  obtain ⟨i, hi, hz, hsz, hby⟩ := info8
  obtain ⟨g', cap', w', hr, h2, h3, h4, _⟩ := run_append_lies (P := Try.prog) w 28 ty base 5 i (.int .u8 0) 1 1 Try.underlying28 hi hz hsz hby rfl (by omega) (.slice (some ⟨g, 0, none⟩) ps.length cap) ps.length (vals ps) hown.own ⟨B, 0, none⟩ 1 1 (vals [c]) rfl
    (fun j u hj => by
      match j, hj with
      | 0, hj => simp [vals] at hj; subst hj; exact hcell
      | j + 1, hj => simp [vals] at hj) (vals_one [c]) (by omega) (by unfold maxLen; omega) (by omega) hbase w.heap.size rfl
  refine ⟨g', cap', w', hr, ⟨?_, bytes_app hown.byte (bytes_one c hc)⟩, Chg.of_grown h3, ?_⟩
  · rw [vals_app, List.length_append]
    exact h2
  · rcases h4 with h4 | h4
    · left; cases h4; rfl
    · right; omega

/-- An append inside a region that draws, by what it runs to. -/
theorem step_run_append {ops : Array Oper} {o : Oper} {a : Act} {w : World} {K : Act → World → Prop} {Q : Exit → Act → World → Prop} {E : Prop} (hgd : o.guard = none) (s x : Operand) (t : TypeId)
    (ho : o.op = .call { callee := .builtin .append, args := #[s, x], argTypes := #[t, t] }) (sv xv v : Value) (w' : World) (hs : a.eval s = sv) (hx : a.eval x = xv) (hrun : (Builtin.append_ #[t, t] o.type #[sv, xv]).run Try.prog w = .ok v w') (h : K (a.put o.dst v) w') :
    if Region.wanted o (yielded ops a.tmps) = true then Oper.wp Try.prog o a w K Q else E := by
  have hw : Region.wanted o (yielded ops a.tmps) = true := by simp [Region.wanted, hgd]
  rw [if_pos hw]
  unfold Oper.wp execOp
  simp only [ho, resolve, invoke, builtin, Sem.run_bind, Sem.run_pure, Result.andThen_ok, List.map_toArray, List.map_cons, List.map_nil, hs, hx, hrun]
  exact h

/-- Two matrices of the call's own. -/
structure Two (w : World) (base G1 C1 : Nat) (g1 c1 : Nat → Nat) (G2 C2 : Nat) (g2 c2 : Nat → Nat) (A B : List (List Nat)) : Prop where
  fst : OwnM w base G1 C1 g1 c1 A
  snd : OwnM w base G2 C2 g2 c2 B
  ne : G1 ≠ G2

/-- A row more for each. -/
theorem Two.push {wo wr w5 w6 : World} {base G1 C1 G2 C2 G1' C1' G2' C2' x1 y1 x2 y2 : Nat} {g1 c1 g2 c2 : Nat → Nat} {A B : List (List Nat)} {r1 r2 : List Nat} (h : Two wo base G1 C1 g1 c1 G2 C2 g2 c2 A B) (hb : Below wo.heap.size wo wr)
    (hr1 : OwnB wr base x1 y1 r1) (hr2 : OwnB wr base x2 y2 r2) (hx1 : wo.heap.size ≤ x1) (hx2 : wo.heap.size ≤ x2) (o1 o2 : Obj)
    (hC1 : Chg [G1] (wr.alloc o1) w5) (hat1 : G1' = G1 ∨ (wr.alloc o1).heap.size ≤ G1')
    (ho1 : w5.ownsRow base 28 1 (.slice (some ⟨G1', 0, none⟩) (A.length + 1) C1') (A.length + 1) (rvals g1 c1 A ++ [.slice (some ⟨x1, 0, none⟩) r1.length y1]))
    (hC2 : Chg [G2] (w5.alloc o2) w6) (hat2 : G2' = G2 ∨ (w5.alloc o2).heap.size ≤ G2')
    (ho2 : w6.ownsRow base 28 1 (.slice (some ⟨G2', 0, none⟩) (B.length + 1) C2') (B.length + 1) (rvals g2 c2 B ++ [.slice (some ⟨x2, 0, none⟩) r2.length y2])) :
    Two w6 base G1' C1' (snoc A.length x1 g1) (snoc A.length y1 c1) G2' C2' (snoc B.length x2 g2) (snoc B.length y2 c2) (A ++ [r1]) (B ++ [r2]) ∧ Chg [G1, G2] wo w6 := by
  have hG1 := h.fst.lt.2
  have hG2 := h.snd.lt.2
  have hz := hb.size
  obtain ⟨p1, q1⟩ := h.fst.pushed hb hr1 hx1 o1 hC1 ho1
  have hne2 : ∀ i, i < B.length → g2 i ≠ G1 := fun i hi => owns_ne (h.snd.row i hi).own h.fst.outer (by decide)
  have s5 : OwnM w5 base G2 C2 g2 c2 B := h.snd.chg q1 (by simp; exact fun e => h.ne e.symm) (fun i hi => by simp; exact hne2 i hi)
  have r5 : OwnB w5 base x2 y2 r2 := (hr2.chg (gs := []) ((Chg.refl _ _).alloc o1) (by simp)).chg hC1 (by simp; omega)
  have q2 : Chg [G2] w5 w6 := ((Chg.refl _ _).alloc o2).trans hC2
  have r6 : OwnB w6 base x2 y2 r2 := r5.chg q2 (by simp; omega)
  have p2 := s5.push q2 x2 y2 r2 r6 (fun i hi => by have := (h.snd.row i hi).lt.2; omega) ho2
  have hG1' : G1' ≠ G2 := by
    rcases hat1 with e | e
    · rw [e]; exact h.ne
    · simp at e; omega
  have hl1 := p1.lt.2
  refine ⟨⟨p1.chg q2 (by simpa using hG1') (fun i hi => by simp; exact owns_ne (p1.row i hi).own s5.outer (by decide)), p2, ?_⟩, (q1.mono (by simp)).trans (q2.mono (by simp))⟩
  rcases hat2 with e | e
  · rw [e]; exact hG1'
  · simp at e; omega

end Go.Proofs.Ytnhledngeicekaa
