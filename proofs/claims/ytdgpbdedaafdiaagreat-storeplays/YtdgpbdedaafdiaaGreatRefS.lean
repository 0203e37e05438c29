/-
  The document's store in memory ('Mo'): Copy, Apply, Last.
-/
import Derived.Test.YtdgpbdedaafdiaaGreatLw14
import Derived.Deep.DeepCutAuto
namespace Go.Proofs.YtdgpbdedaafdiaaGreat
open Go.RowKit



/-- The cells behind a hold the entries of xs; their bytes are read. -/
structure EnA (w : World) (a : Option Addr) (c : Nat) (xs : List El) : Prop where
  le : xs.length ≤ c
  max : c ≤ maxLen
  cell : ∀ j u, (evals xs)[j]? = some u → ∃ b off, a = some ⟨b, off, none⟩ ∧ w.cell? ⟨b, off + j, none⟩ = some u
  seen : ∀ x ∈ xs, SeenAt w x.loc x.cap x.p.frag
  wf : ∀ x ∈ xs, x.p.Wf

theorem ena_of {w : World} {a : Option Addr} {c : Nat} {es : List Pe} (h : EnsAt w a c es) : ∃ xs : List El, xs.map (·.p) = es ∧ EnA w a c xs := by
  obtain ⟨xs, rfl, h1, h2⟩ := ens_els h
  exact ⟨xs, rfl, by have := h.le; rwa [List.length_map] at this, h.max, h1, h2, fun x hx => h.wf _ (List.mem_map_of_mem hx)⟩

theorem EnA.nil (w : World) (a : Option Addr) : EnA w a 0 [] := ⟨Nat.le_refl _, Nat.zero_le _, fun j u hj => by simp [evals] at hj, by simp, by simp⟩

theorem EnA.ens {w : World} {a : Option Addr} {c : Nat} {xs : List El} (h : EnA w a c xs) : EnsAt w a c (xs.map (·.p)) := by
  refine ⟨by rw [List.length_map]; exact h.le, h.max, fun i hi => ?_, fun e he => ?_⟩
  · rw [List.length_map] at hi
    have hk : ∀ k u, k < 8 → (ecells (xs.getD i el0))[k]? = some u → ∃ b off, a = some ⟨b, off, none⟩ ∧ w.cell? ⟨b, off + i * 8 + k, none⟩ = some u := fun k u hk hu => by
      obtain ⟨b, off, e, hc⟩ := h.cell (i * 8 + k) u (by rw [evals_at xs i k hi hk]; exact hu)
      exact ⟨b, off, e, by rw [Nat.add_assoc]; exact hc⟩
    obtain ⟨b, off, rfl, h0⟩ := hk 0 _ (by omega) rfl
    have one : ∀ k u, k < 8 → (ecells (xs.getD i el0))[k]? = some u → w.cell? ⟨b, off + i * 8 + k, none⟩ = some u := fun k u h8 hu => by
      obtain ⟨b', off', e, hc⟩ := hk k u h8 hu
      cases e
      exact hc
    have e1 : (xs.map (·.p)).getD i pe0 = (xs.getD i el0).p := getD_map_p xs i hi
    rw [e1]
    exact ⟨b, off, (xs.getD i el0).loc, (xs.getD i el0).cap, rfl, one 0 _ (by omega) rfl, one 1 _ (by omega) rfl, one 2 _ (by omega) rfl, one 3 _ (by omega) rfl, one 4 _ (by omega) rfl, one 5 _ (by omega) rfl, one 6 _ (by omega) rfl, one 7 _ (by omega) rfl, h.seen _ (getD_mem xs i el0 hi)⟩
  · obtain ⟨x, hx, rfl⟩ := List.mem_map.mp he
    exact h.wf x hx

/-- A row of one's own, read whatever M turns to. -/
theorem kp_row {M : List Nat} {w : World} {base n c : Nat} {a : Option Addr} {xs : List El} (h : w.ownsRow base 41 8 (.slice a n c) n (evals xs)) (hn : xs.length = n) (hM : ∀ g ∈ blk a, g ∉ M)
    (hs : ∀ x ∈ xs, Kp M w fun y => SeenAt y x.loc x.cap x.p.frag) (hw : ∀ x ∈ xs, x.p.Wf) : Kp M w fun x => EnA x a c xs := fun gs x hc hg => by
  have he := ens_row h hn (fun x hx => (hs x hx).now) hw
  refine ⟨by have := he.le; rwa [List.length_map] at this, he.max, fun j u hj => ?_, fun y hy => hs y hy gs x hc hg, hw⟩
  obtain ⟨b, off, e, hk⟩ := row_cells h (by rw [evals_len, hn]) j u hj
  refine ⟨b, off, e, hc.cell hk fun hm => ?_⟩
  have hb : b ∈ blk a := by rw [e]; simp [blk]
  rcases hg b hm with h1 | h1
  · exact hM b hb h1
  · have := World.ownsRow.lt h b (blk_own hb)
    omega

/-- Where a record's parts lie. -/
structure Ly where
  ma : Option Addr
  mc : Nat
  ea : Option Addr
  ec : Nat
  xs : List El

def ly0 : Ly := ⟨none, 0, none, 0, []⟩

/-- A record that is read whatever M turns to. -/
structure Rk (M : List Nat) (w : World) (y : Ly) (r : Pr) : Prop where
  eq : y.xs.map (·.p) = r.ents
  kp : Kp M w fun x => IntsAt x y.ma y.mc r.mem ∧ EnA x y.ea y.ec y.xs
  wf : r.Wf

section
variable {M M' N : List Nat} {w w' : World} {y z : Ly} {r : Pr} {B : Nat} {m : Ss}

theorem Rk.at_ (h : Rk M w y r) : Kp M w fun x => RecAt x y.ma y.mc y.ea y.ec r := h.kp.imp fun x hx => ⟨hx.1, by have := hx.2.ens; rw [h.eq] at this; exact this, h.wf⟩
theorem Rk.mv (h : Rk M w y r) (hm : Mv w w' M M') : Rk M' w' y r := ⟨h.eq, h.kp.mv hm, h.wf⟩
theorem Rk.below (h : Rk M w y r) (hb : Below w.heap.size w w') : Rk M w' y r := ⟨h.eq, h.kp.below hb, h.wf⟩
theorem Rk.sub (h : Rk M w y r) (hs : ∀ g ∈ N, g ∈ M ∨ w.heap.size ≤ g) : Rk N w y r := ⟨h.eq, h.kp.sub hs, h.wf⟩
theorem rk0 (M : List Nat) (w : World) : Rk M w ly0 pr0 := ⟨rfl, fun _ x _ _ => ⟨IntsAt.nil (Nat.zero_le _), EnA.nil x none⟩, pr0_wf14⟩
theorem Rk.len (h : Rk M w y r) : y.xs.length = r.ents.length := by rw [← h.eq, List.length_map]

/-- Its cells. -/
def mcells (y z : Ly) (m : Ss) : Array Value :=
  #[.int .i64 m.now.kind, .int .i64 m.now.epoch, .slice y.ma m.now.mem.length y.mc, .int .i64 m.now.pos, .int .i64 m.now.last, .slice y.ea m.now.ents.length y.ec, .bool m.sealed,
    .int .i64 m.staged.kind, .int .i64 m.staged.epoch, .slice z.ma m.staged.mem.length z.mc, .int .i64 m.staged.pos, .int .i64 m.staged.last, .slice z.ea m.staged.ents.length z.ec]

/-- The document's store, in block B. -/
def Mo (M : List Nat) (w : World) (B : Nat) (m : Ss) : Prop :=
  ∃ y z : Ly, (Kp M w fun x => Bx x B 37 (mcells y z m)) ∧ Rk M w y m.now ∧ Rk M w z m.staged

theorem Mo.mv (h : Mo M w B m) (hm : Mv w w' M M') : Mo M' w' B m := by
  obtain ⟨y, z, h1, h2, h3⟩ := h
  exact ⟨y, z, h1.mv hm, h2.mv hm, h3.mv hm⟩
theorem Mo.below (h : Mo M w B m) (hb : Below w.heap.size w w') : Mo M w' B m := h.mv (Mv.of_below M hb)

/-- The same, which its own methods turn. -/
def Nx (M : List Nat) (w : World) (B : Nat) (m : Ss) : Prop :=
  B ∉ M ∧ ∃ y z : Ly, Bx w B 37 (mcells y z m) ∧ Rk (B :: M) w y m.now ∧ Rk (B :: M) w z m.staged

theorem Nx.mo (h : Nx M w B m) : Mo M w B m := by
  obtain ⟨hn, y, z, h1, h2, h3⟩ := h
  have hs : ∀ g ∈ M, g ∈ B :: M ∨ w.heap.size ≤ g := fun g hg => .inl (List.mem_cons_of_mem _ hg)
  refine ⟨y, z, fun gs x hc hg => h1.chg hc fun e => ?_, h2.sub hs, h3.sub hs⟩
  rcases hg B e with h | h
  · exact hn h
  · have := bx_lt h1; omega

theorem Nx.below (h : Nx M w B m) (hb : Below w.heap.size w w') : Nx M w' B m := by
  obtain ⟨hn, y, z, h1, h2, h3⟩ := h
  exact ⟨hn, y, z, h1.chg (gs := []) (Chg.of_below hb) (by simp), h2.below hb, h3.below hb⟩

set_option maxRecDepth 100000 in
set_option maxHeartbeats 1000000 in
theorem refCopy_any (h : Mo M w B m) (hM : ∀ g ∈ M, g < w.heap.size) :
    Calls Tryz.prog 7 #[.pointer (some ⟨B, 0, none⟩)] w fun e w' => ∃ B', e = .returned (.pointer (some ⟨B', 0, none⟩)) ∧ w.heap.size ≤ B' ∧ Below w.heap.size w w' ∧ Nx M w' B' m := by
  obtain ⟨y, z, h1, h2, h3⟩ := h
  have HB := Lib.hid h1.now
  have HY := Lib.hid h2
  have HZ := Lib.hid h3
  have HM := Lib.hid hM
  clear h1 h2 h3 hM
  go_enter Tryz.func7, Tryz.ntmps7
  go_wp2_with (first
    | (refine wpList_ldX 37 13 _ _ _ (mcells y z m) rfl rfl rfl (by kernel_rfl) (by kernel_rfl) rfl (fun j v hv => (by rw [Nat.zero_add]; exact HB.out.cell j v hv)) ?_)
    | (refine wpList_st 37 13 w.heap.size 0 37 (mcells y z m) #[.int .i64 0, .int .i64 0, .slice none 0 0, .int .i64 0, .int .i64 0, .slice none 0 0, .bool false, .int .i64 0, .int .i64 0, .slice none 0 0, .int .i64 0, .int .i64 0, .slice none 0 0] (mcells y z m) _ _ rfl rfl rfl rfl rfl (by kernel_rfl) rfl (bx_new8 w _ 37) (by show 13 ≤ 13; omega) (by simp [mcells, Value.oneCell']) rfl ?_; intro wx hx hcx; have hbx : Below w.heap.size w wx := hcx.below (below_one w _) (by simp) (by simp); have HX := Lib.hid hx; have HE := Lib.hid hbx; clear hx hcx hbx))
  go_ret
  have hmv : Mv w wx M (w.heap.size :: M) := ⟨Chg.mono (Chg.of_below HE.out) (fun g hg => absurd hg List.not_mem_nil), fun g hg => by
    rcases List.mem_cons.mp hg with e | e
    · exact .inr (Nat.le_of_eq e.symm)
    · exact .inl e⟩
  exact ⟨w.heap.size, rfl, Nat.le_refl _, HE.out, fun e => Nat.lt_irrefl _ (HM.out _ e), y, z, HX.out, HY.out.mv hmv, HZ.out.mv hmv⟩

theorem refLast_any (h : Mo M w B m) (hm : m.now.ents.length ≤ 1000000) :
    Calls Tryz.prog 18 #[.pointer (some ⟨B, 0, none⟩)] w fun e w' => e = .returned (.int .i64 (lastS m)) ∧ w = w' := by
  obtain ⟨y, z, h1, h2, h3⟩ := h
  obtain ⟨n, hn⟩ : ∃ n, m.now.ents.length = n := ⟨_, rfl⟩
  have HN := Lib.hid hn
  have c4 : w.cell? ⟨B, 4, none⟩ = some (.int .i64 m.now.last) := h1.now.cell 4 _ rfl
  have c5 : w.cell? ⟨B, 5, none⟩ = some (.slice y.ea n y.ec) := h1.now.cell 5 _ (by rw [← hn]; rfl)
  have HE : Hid (EnsAt w y.ea y.ec m.now.ents) := h2.at_.now.ents
  rw [hn] at hm
  clear h1 h2 h3 hn
  by_cases h0 : n = 0
  · subst h0
    have HZ : Hid (lastS m = m.now.last) := lastS_none (List.length_eq_zero_iff.mp HN.out)
    go_enter Tryz.func18, Tryz.ntmps18
    go_wp2
    go_ret
    exact ⟨by rw [HZ.out]; rfl, rfl⟩
  · have HZ : Hid (lastS m = if m.now.last < (m.now.ents.getD (n - 1) pe0).seq then (m.now.ents.getD (n - 1) pe0).seq else m.now.last) := by
      have := lastS_some (s := m) (fun e => h0 (by rw [← HN.out, e]; rfl))
      rw [HN.out] at this
      exact this
    obtain ⟨k, rfl⟩ : ∃ k, n = k + 1 := ⟨n - 1, by omega⟩
    rw [Nat.add_sub_cancel] at HZ
    obtain ⟨b, off, loc, c2, e, hc⟩ := HE.out.el k (by rw [HN.out]; omega)
    have c0 := hc.c0
    generalize (m.now.ents.getD k pe0).seq = q at *
    rw [e] at c5
    have p1 : decide (((k + 1 : Nat) : Int) > 0) = true := decide_eq_true (by omega)
    have p2 : (((k + 1 : Nat) : Int) - 1) = (k : Int) := by omega
    have p3 : (0 : Int) ≤ (k : Int) := by omega
    have p4 : (k : Int) < ((k + 1 : Nat) : Int) := by omega
    clear hc HE
    by_cases hq : m.now.last < q
    · have p5 : decide (q > m.now.last) = true := decide_eq_true hq
      have HF : Hid (lastS m = q) := by show _ = _; rw [HZ.out, if_pos hq]
      clear hq
      go_enter Tryz.func18, Tryz.ntmps18
      go_wp2
      go_ret
      exact ⟨by rw [HF.out]; rfl, rfl⟩
    · have p5 : decide (q > m.now.last) = false := decide_eq_false (by omega)
      have HF : Hid (lastS m = m.now.last) := by show _ = _; rw [HZ.out, if_neg hq]
      clear hq
      go_enter Tryz.func18, Tryz.ntmps18
      go_wp2
      go_ret
      exact ⟨by rw [HF.out]; rfl, rfl⟩

end

/-- What Apply leaves. -/
def RetRa (M : List Nat) (w : World) (B : Nat) (m : Ss) (e : Ending) (w' : World) : Prop := e = .returned (.tuple #[]) ∧ Nx M w' B m ∧ Chg [B] w w'

section
variable {M : List Nat} {w : World} {y : Ly} {r : Pr} {B lm le : Nat} {m : Ss} {k : Int}

theorem appS_not {s : Ss} {r : Pr} (h1 : r.kind ≠ 1) (h2 : r.kind ≠ 2) (h3 : r.kind ≠ 3) (h4 : r.kind ≠ 4) : appS s r = s := by
  unfold appS
  rw [if_neg h1, if_neg h2, if_neg h3, if_neg h4]

/-- Its block has turned. -/
theorem Nx.put {w w' : World} {m' : Ss} {y' z' : Ly} (hn : B ∉ M) (hb : Bx w' B 37 (mcells y' z' m')) (hc : Chg [B] w w') (h2 : Rk (B :: M) w y' m'.now) (h3 : Rk (B :: M) w z' m'.staged) : Nx M w' B m' := by
  have hm : Mv w w' (B :: M) (B :: M) := ⟨hc.mono (by simp), fun _ hg => .inl hg⟩
  exact ⟨hn, y', z', hb, h2.mv hm, h3.mv hm⟩


set_option maxRecDepth 100000 in
set_option maxHeartbeats 2000000 in
theorem refApply_1 (h : Nx M w B m) (hr : Rk (B :: M) w y r) (hle : r.ents.length = le) (hk1 : k = 1) (hs : m.now.ents.length ≤ 900000) (hl : le ≤ 10000) (hM : ∀ g ∈ M, g < w.heap.size) :
    Calls Tryz.prog 8 #[.pointer (some ⟨B, 0, none⟩), .agg #[.int .i64 k, .int .i64 r.epoch, .slice y.ma lm y.mc, .int .i64 r.pos, .int .i64 r.last, .slice y.ea le y.ec]] w (RetRa M w B { m with now := { m.now with ents := m.now.ents ++ r.ents } }) := by
  obtain ⟨n, hn⟩ : ∃ n, m.now.ents.length = n := ⟨_, rfl⟩
  rw [hn] at hs
  have d1 : (k == 1) = true := by rw [hk1]; rfl
  have HN := Lib.hid hn
  have HLE := Lib.hid hle
  have HM := Lib.hid hM
  have hbl := below_one w (.cells #[.int .i64 k, .int .i64 r.epoch, .slice y.ma lm y.mc, .int .i64 r.pos, .int .i64 r.last, .slice y.ea le y.ec] 35)
  have HB : Hid (Bx (w.alloc (.cells #[.int .i64 k, .int .i64 r.epoch, .slice y.ma lm y.mc, .int .i64 r.pos, .int .i64 r.last, .slice y.ea le y.ec] 35)) w.heap.size 35 #[.int .i64 k, .int .i64 r.epoch, .slice y.ma lm y.mc, .int .i64 r.pos, .int .i64 r.last, .slice y.ea le y.ec]) := bx_new8 _ _ _
  have HE0 := Lib.hid hbl
  have HSB : Hid (B < w.heap.size) := by obtain ⟨_, y1, z1, hx, _⟩ := h; exact bx_lt hx
  have HX := Lib.hid (h.below hbl)
  have HR := Lib.hid (hr.below hbl)
  clear h hr hle hn hbl hk1 hM
  go_enter Tryz.func8, Tryz.ntmps8
  have k0 := HB.out.cell 0 (.int .i64 k) rfl
  go_wp2_with fail
  generalize (w.alloc (.cells #[.int .i64 k, .int .i64 r.epoch, .slice y.ma lm y.mc, .int .i64 r.pos, .int .i64 r.last, .slice y.ea le y.ec] 35)) = w1 at *
  obtain ⟨hnB, y1, z1, hx, h2, h3⟩ := HX.out
  have HNB := Lib.hid hnB
  have HBX := Lib.hid hx
  have H2 := Lib.hid h2
  have H3 := Lib.hid h3
  have c5 : w1.cell? ⟨B, 5, none⟩ = some (.slice y1.ea n y1.ec) := hx.cell 5 _ (by rw [← HN.out]; rfl)
  have hS0 : w1.cell? ⟨w.heap.size, 5, none⟩ = some (.slice y.ea le y.ec) := HB.out.cell 5 _ rfl
  clear hnB hx h2 h3 HX k0
  refine wp_region_S2 (fun x => x.cell? ⟨w.heap.size, 5, none⟩ = some (.slice y.ea le y.ec)) (by kernel_rfl) ?_
  have hSw : w1.drew.cell? ⟨w.heap.size, 5, none⟩ = some (.slice y.ea le y.ec) := hS0
  have c5w : w1.drew.cell? ⟨B, 5, none⟩ = some (.slice y1.ea n y1.ec) := c5
  have hbd : Below w1.heap.size w1 w1.drew := Below.drew (Below.refl _ w1)
  have HBX2 := Lib.hid (HBX.out.chg (gs := []) (Chg.of_below hbd) (by simp))
  have H22 := Lib.hid (H2.out.below hbd)
  have H32 := Lib.hid (H3.out.below hbd)
  have HR2 := Lib.hid (HR.out.below hbd)
  have HE2 : Hid (Below w.heap.size w w1.drew) := HE0.out.drew
  have HSW : Hid (w.heap.size < w1.drew.heap.size) := bx_lt HB.out
  clear hbd HBX H2 H3 HR HB hS0 HE0 c5
  generalize w1.drew = w2 at *
  refine wpAnyH_tkS2 (i := 0) 8 (v := ?_) rfl rfl (by kernel_rfl) (by kernel_rfl) (by kernel_rfl) (by rfl) hSw (fun wq hwq => ?_) ?_
  rotate_left
  · (have hx := True.intro; go_simp <;> with_reducible rfl)
  simp only [List.setIfInBounds_toArray, List.set_cons_zero, List.set_cons_succ]
  refine wpAnyH_tkS2 (i := 2) 10 (v := ?_) rfl rfl (by kernel_rfl) (by kernel_rfl) (by kernel_rfl) (by rfl) hSw (fun wq hwq => ?_) ?_
  rotate_left
  · (have hx := True.intro; go_simp <;> with_reducible rfl)
  simp only [List.setIfInBounds_toArray, List.set_cons_zero, List.set_cons_succ]
  refine wpAnyH_tkS2 (i := 3) 11 (v := ?_) rfl rfl (by kernel_rfl) (by kernel_rfl) (by kernel_rfl) (by rfl) hSw (fun wq hwq => ?_) ?_
  rotate_left
  · (have hx := True.intro; go_simp <;> with_reducible rfl)
  simp only [List.setIfInBounds_toArray, List.set_cons_zero, List.set_cons_succ]
  refine wpAnyH_tkS2 (i := 4) 12 (v := ?_) rfl rfl (by kernel_rfl) (by kernel_rfl) (by kernel_rfl) (by rfl) hSw (fun wq hwq => ?_) ?_
  rotate_left
  · (have hx := True.intro; go_simp <;> with_reducible rfl)
  simp only [List.setIfInBounds_toArray, List.set_cons_zero, List.set_cons_succ]
  refine wpAnyH_tkS2 (i := 5) 13 (v := ?_) rfl rfl (by kernel_rfl) (by kernel_rfl) (by kernel_rfl) (by rfl) hSw (fun wq hwq => ?_) ?_
  rotate_left
  · (have hx := True.intro; go_simp <;> with_reducible rfl)
  simp only [List.setIfInBounds_toArray, List.set_cons_zero, List.set_cons_succ]
  refine wpAnyH_tkS2 (i := 8) 16 (v := ?_) rfl rfl (by kernel_rfl) (by kernel_rfl) (by kernel_rfl) (by rfl) hSw (fun wq hwq => ?_) ?_
  rotate_left
  · (have hx := True.intro; go_simp <;> with_reducible rfl)
  simp only [List.setIfInBounds_toArray, List.set_cons_zero, List.set_cons_succ]
  refine wpAnyH_tkS2 (i := 9) 17 (v := ?_) rfl rfl (by kernel_rfl) (by kernel_rfl) (by kernel_rfl) (by rfl) hSw (fun wq hwq => ?_) ?_
  rotate_left
  · (have hx := hwq; go_simp <;> with_reducible rfl)
  simp only [List.setIfInBounds_toArray, List.set_cons_zero, List.set_cons_succ]
  have HXL : Hid (y1.xs.length = n) := by show _ = _; rw [H22.out.len, HN.out]
  have HYL : Hid (y.xs.length = le) := by show _ = _; rw [HR2.out.len, HLE.out]
  have HQ1 := Lib.hid H22.out.kp.now.2
  have HQ2 := Lib.hid HR2.out.kp.now.2
  have hszB := HSB.out
  have hsz2 := HSW.out
  have hb3 := below_one w2 (.cells #[] 41)
  have HB3 := Lib.hid hb3
  have HROW := Lib.hid (row_lit w2 w2.heap.size w2.heap.size 41 8 rfl (Nat.le_refl _))
  have hS3 : (w2.alloc (.cells #[] 41)).cell? ⟨w.heap.size, 5, none⟩ = some (.slice y.ea le y.ec) := cell_later hb3 hSw
  have c53 : (w2.alloc (.cells #[] 41)).cell? ⟨B, 5, none⟩ = some (.slice y1.ea n y1.ec) := cell_later hb3 c5w
  clear hb3
  refine wpAnyH_twoS2 (i := 1) (j := 6) rfl rfl (by kernel_rfl) (by rfl) (by rfl) (fun K hK => ?_) (fun K hK => ?_)
  · go_simp
    refine hK.out _ _ (fun x => x.cell? ⟨w.heap.size, 5, none⟩ = some (.slice y.ea le y.ec)) (fun _ h => h) (hS3) ?_
    clear hK K
    refine wpAnyH_oneS2 (i := 6) rfl (by kernel_rfl) (by rfl) (fun K hK => ?_)
    go_simp
    refine hK.out _ _ (fun x => x.cell? ⟨w.heap.size, 5, none⟩ = some (.slice y.ea le y.ec)) (fun _ h => h) (hS3) ?_
    clear hK K
    clear c53 c5w
    clear hSw
    have hSw := hS3
    clear hS3
    refine wpAnyH_oneS2 (i := 7) rfl (by kernel_rfl) (by rfl) (fun K hK => ?_)
    refine wp_appRaw (.tmp 9) (.tmp 14) 33 41 rfl Tryz.underlying33 _ 8 88 infoE rfl (by omega) (by omega) w2.heap.size (some ⟨w2.heap.size, 0, none⟩) 0 0 [] rfl HROW.out y1.ea n y1.ec (evals y1.xs) rfl (by rw [evals_len, HXL.out]) (fun j u hj => by obtain ⟨b', off, e, hc⟩ := HQ1.out.cell j u hj; exact ⟨b', off, e, cell_later HB3.out hc⟩) (evals_one y1.xs) (by omega) (by simp) ?_
    intro va vc w4 ho hg
    rw [List.nil_append] at ho
    rw [Nat.zero_add] at ho ⊢
    have HB4 : Hid (Below w2.heap.size w2 w4) := (Chg.of_grown hg).below HB3.out HB3.out.size (by simp)
    have HO4 := Lib.hid ho
    have hS4 : w4.cell? ⟨w.heap.size, 5, none⟩ = some (.slice y.ea le y.ec) := (Chg.of_grown hg).cell hSw (by simp; omega)
    clear ho hg
    go_simp
    refine hK.out _ _ (fun x => x.cell? ⟨w.heap.size, 5, none⟩ = some (.slice y.ea le y.ec)) (fun _ h => h) (hS4) ?_
    clear hK K
    clear hSw
    have hSw := hS4
    clear hS4
    refine wpAnyH_oneS2 (i := 10) rfl (by kernel_rfl) (by rfl) (fun K hK => ?_)
    have hva : ∀ g ∈ blk va, w2.heap.size ≤ g := fun g hg => (World.ownsRow.lt HO4.out g (blk_own hg)).1
    refine wp_appRawAt (.tmp 15) (.tmp 17) 33 41 rfl Tryz.underlying33 _ 8 88 infoE rfl (by omega) (by omega) w2.heap.size va vc n (evals y1.xs) rfl HO4.out y.ea le y.ec (evals y.xs) rfl (by rw [evals_len, HYL.out]) (fun j u hj => by obtain ⟨b', off, e, hc⟩ := HQ2.out.cell j u hj; exact ⟨b', off, e, cell_later HB4.out hc⟩) (evals_one y.xs) (by omega) HB4.out.size ?_
    intro vb vd w5 ho hg hat
    have hcg := chg_own hg
    have HB5 : Hid (Below w2.heap.size w2 w5) := hcg.below HB4.out HB4.out.size hva
    have HO5 := Lib.hid ho
    have hS5 : w5.cell? ⟨w.heap.size, 5, none⟩ = some (.slice y.ea le y.ec) := hcg.cell hSw (fun e => absurd (hva w.heap.size e) (by omega))
    clear ho hg hat hcg
    go_simp
    refine hK.out _ _ (fun x => x.cell? ⟨w.heap.size, 5, none⟩ = some (.slice y.ea le y.ec)) (fun _ h => h) (hS5) ?_
    clear hK K
    clear hSw
    have hSw := hS5
    clear hS5
    have HBX5 := Lib.hid (HBX2.out.chg (gs := []) (Chg.of_below HB5.out) (by simp))
    have cB : w5.cell? ⟨B, 5, none⟩ = some (.slice y1.ea n y1.ec) := HBX5.out.cell 5 _ (by rw [← HN.out]; rfl)
    have hfr : w5.frozen? ⟨B, 5, none⟩ = false := HBX5.out.free 5
    refine wpAnyH_tkS2 (i := 11) 19 (v := ?_) rfl rfl (by kernel_rfl) (by kernel_rfl) (by kernel_rfl) (by rfl) hSw (fun wq hwq => ?_) ?_
    rotate_left
    · (have hx := True.intro; go_simp <;> with_reducible rfl)
    simp only [List.setIfInBounds_toArray, List.set_cons_zero, List.set_cons_succ]
    refine wpAnyH_tkS2 (i := 12) 20 (v := ?_) rfl rfl (by kernel_rfl) (by kernel_rfl) (by kernel_rfl) (by rfl) hSw (fun wq hwq => ?_) ?_
    rotate_left
    · (have hx := True.intro; go_simp <;> with_reducible rfl)
    simp only [List.setIfInBounds_toArray, List.set_cons_zero, List.set_cons_succ]
    refine wpAnyH_tkS2 (i := 13) 21 (v := ?_) rfl rfl (by kernel_rfl) (by kernel_rfl) (by kernel_rfl) (by rfl) hSw (fun wq hwq => ?_) ?_
    rotate_left
    · (have hx := True.intro; go_simp <;> with_reducible rfl)
    simp only [List.setIfInBounds_toArray, List.set_cons_zero, List.set_cons_succ]
    have HSB5 : Hid (Bx (w5.setCell ⟨B, 5, none⟩ (.slice vb (n + le) vd)) B 37 (mcells { y1 with ea := vb, ec := vd, xs := y1.xs ++ y.xs } z1 { m with now := { m.now with ents := m.now.ents ++ r.ents } })) := by
      refine HBX5.out.set 5 _ ?_
      rw [← HN.out, ← HLE.out, ← List.length_append]
      rfl
    have HR5 : Hid (Rk (B :: M) w5 { y1 with ea := vb, ec := vd, xs := y1.xs ++ y.xs } { m.now with ents := m.now.ents ++ r.ents }) := by
      have hvb : ∀ g ∈ blk vb, w2.heap.size ≤ g := fun g hg => (World.ownsRow.lt HO5.out g (blk_own hg)).1
      have k1 := (H22.out.below HB5.out)
      have k2 := (HR2.out.below HB5.out)
      refine ⟨?_, (k1.kp.imp fun x hx => hx.1).and (kp_row (n := n + le) (xs := y1.xs ++ y.xs) (by rw [evals_app]; exact HO5.out) (by rw [List.length_append, HXL.out, HYL.out]) (fun g hg hm => ?_) (fun x hx => ?_) fun x hx => ?_), ⟨k1.wf.kind, k1.wf.epoch, k1.wf.mem, k1.wf.pos, k1.wf.last, fun e he => ?_⟩⟩
      · show (y1.xs ++ y.xs).map (·.p) = m.now.ents ++ r.ents
        rw [List.map_append, k1.eq, k2.eq]
      · have h1 := hvb g hg
        rcases List.mem_cons.mp hm with e | e
        · omega
        · have := HM.out g e; omega
      · rcases List.mem_append.mp hx with e | e
        · exact k1.kp.imp fun _ hx => hx.2.seen x e
        · exact k2.kp.imp fun _ hx => hx.2.seen x e
      · rcases List.mem_append.mp hx with e | e
        · exact HQ1.out.wf x e
        · exact HQ2.out.wf x e
      · rcases List.mem_append.mp he with e | e
        · exact k1.wf.ents _ e
        · exact k2.wf.ents _ e
    have HFIN : Hid (RetRa M w B { m with now := { m.now with ents := m.now.ents ++ r.ents } } (.returned (.tuple #[])) (w5.setCell ⟨B, 5, none⟩ (.slice vb (n + le) vd))) :=
      ⟨rfl, Nx.put HNB.out HSB5.out (chg_set1 w5 B 5 _) HR5.out (H32.out.below HB5.out), (Chg.mono (Chg.of_below (HE2.out.trans (HB5.out.mono HE2.out.size))) (fun g hg => absurd hg List.not_mem_nil)).trans (chg_set1 w5 B 5 _)⟩
    have hS6 : (w5.setCell ⟨B, 5, none⟩ (.slice vb (n + le) vd)).cell? ⟨w.heap.size, 5, none⟩ = some (.slice y.ea le y.ec) := (chg_set1 w5 B 5 _).cell hSw (by simp; omega)
    refine wpAnyH_oneS2 (i := 14) rfl (by kernel_rfl) (by rfl) (fun K hK => ?_)
    go_simp
    refine hK.out _ _ (fun x => x.cell? ⟨w.heap.size, 5, none⟩ = some (.slice y.ea le y.ec)) (fun _ h => h) (hS6) ?_
    clear hK K
    refine wpAnyH_done (by kernel_rfl) ?_ _
    refine NoPanic.normal ?_
    go_wp2
    go_end0
    exact HFIN.out
  · go_simp
    refine hK.out _ _ (fun x => x.cell? ⟨w.heap.size, 5, none⟩ = some (.slice y.ea le y.ec)) (fun _ h => h) (hSw) ?_
    clear hK K
    refine wpAnyH_oneS2 (i := 1) rfl (by kernel_rfl) (by rfl) (fun K hK => ?_)
    go_simp
    refine hK.out _ _ (fun x => x.cell? ⟨w.heap.size, 5, none⟩ = some (.slice y.ea le y.ec)) (fun _ h => h) (hS3) ?_
    clear hK K
    clear c53 c5w
    clear hSw
    have hSw := hS3
    clear hS3
    refine wpAnyH_oneS2 (i := 7) rfl (by kernel_rfl) (by rfl) (fun K hK => ?_)
    refine wp_appRaw (.tmp 9) (.tmp 14) 33 41 rfl Tryz.underlying33 _ 8 88 infoE rfl (by omega) (by omega) w2.heap.size (some ⟨w2.heap.size, 0, none⟩) 0 0 [] rfl HROW.out y1.ea n y1.ec (evals y1.xs) rfl (by rw [evals_len, HXL.out]) (fun j u hj => by obtain ⟨b', off, e, hc⟩ := HQ1.out.cell j u hj; exact ⟨b', off, e, cell_later HB3.out hc⟩) (evals_one y1.xs) (by omega) (by simp) ?_
    intro va vc w4 ho hg
    rw [List.nil_append] at ho
    rw [Nat.zero_add] at ho ⊢
    have HB4 : Hid (Below w2.heap.size w2 w4) := (Chg.of_grown hg).below HB3.out HB3.out.size (by simp)
    have HO4 := Lib.hid ho
    have hS4 : w4.cell? ⟨w.heap.size, 5, none⟩ = some (.slice y.ea le y.ec) := (Chg.of_grown hg).cell hSw (by simp; omega)
    clear ho hg
    go_simp
    refine hK.out _ _ (fun x => x.cell? ⟨w.heap.size, 5, none⟩ = some (.slice y.ea le y.ec)) (fun _ h => h) (hS4) ?_
    clear hK K
    clear hSw
    have hSw := hS4
    clear hS4
    refine wpAnyH_oneS2 (i := 10) rfl (by kernel_rfl) (by rfl) (fun K hK => ?_)
    have hva : ∀ g ∈ blk va, w2.heap.size ≤ g := fun g hg => (World.ownsRow.lt HO4.out g (blk_own hg)).1
    refine wp_appRawAt (.tmp 15) (.tmp 17) 33 41 rfl Tryz.underlying33 _ 8 88 infoE rfl (by omega) (by omega) w2.heap.size va vc n (evals y1.xs) rfl HO4.out y.ea le y.ec (evals y.xs) rfl (by rw [evals_len, HYL.out]) (fun j u hj => by obtain ⟨b', off, e, hc⟩ := HQ2.out.cell j u hj; exact ⟨b', off, e, cell_later HB4.out hc⟩) (evals_one y.xs) (by omega) HB4.out.size ?_
    intro vb vd w5 ho hg hat
    have hcg := chg_own hg
    have HB5 : Hid (Below w2.heap.size w2 w5) := hcg.below HB4.out HB4.out.size hva
    have HO5 := Lib.hid ho
    have hS5 : w5.cell? ⟨w.heap.size, 5, none⟩ = some (.slice y.ea le y.ec) := hcg.cell hSw (fun e => absurd (hva w.heap.size e) (by omega))
    clear ho hg hat hcg
    go_simp
    refine hK.out _ _ (fun x => x.cell? ⟨w.heap.size, 5, none⟩ = some (.slice y.ea le y.ec)) (fun _ h => h) (hS5) ?_
    clear hK K
    clear hSw
    have hSw := hS5
    clear hS5
    have HBX5 := Lib.hid (HBX2.out.chg (gs := []) (Chg.of_below HB5.out) (by simp))
    have cB : w5.cell? ⟨B, 5, none⟩ = some (.slice y1.ea n y1.ec) := HBX5.out.cell 5 _ (by rw [← HN.out]; rfl)
    have hfr : w5.frozen? ⟨B, 5, none⟩ = false := HBX5.out.free 5
    refine wpAnyH_tkS2 (i := 11) 19 (v := ?_) rfl rfl (by kernel_rfl) (by kernel_rfl) (by kernel_rfl) (by rfl) hSw (fun wq hwq => ?_) ?_
    rotate_left
    · (have hx := True.intro; go_simp <;> with_reducible rfl)
    simp only [List.setIfInBounds_toArray, List.set_cons_zero, List.set_cons_succ]
    refine wpAnyH_tkS2 (i := 12) 20 (v := ?_) rfl rfl (by kernel_rfl) (by kernel_rfl) (by kernel_rfl) (by rfl) hSw (fun wq hwq => ?_) ?_
    rotate_left
    · (have hx := True.intro; go_simp <;> with_reducible rfl)
    simp only [List.setIfInBounds_toArray, List.set_cons_zero, List.set_cons_succ]
    refine wpAnyH_tkS2 (i := 13) 21 (v := ?_) rfl rfl (by kernel_rfl) (by kernel_rfl) (by kernel_rfl) (by rfl) hSw (fun wq hwq => ?_) ?_
    rotate_left
    · (have hx := True.intro; go_simp <;> with_reducible rfl)
    simp only [List.setIfInBounds_toArray, List.set_cons_zero, List.set_cons_succ]
    have HSB5 : Hid (Bx (w5.setCell ⟨B, 5, none⟩ (.slice vb (n + le) vd)) B 37 (mcells { y1 with ea := vb, ec := vd, xs := y1.xs ++ y.xs } z1 { m with now := { m.now with ents := m.now.ents ++ r.ents } })) := by
      refine HBX5.out.set 5 _ ?_
      rw [← HN.out, ← HLE.out, ← List.length_append]
      rfl
    have HR5 : Hid (Rk (B :: M) w5 { y1 with ea := vb, ec := vd, xs := y1.xs ++ y.xs } { m.now with ents := m.now.ents ++ r.ents }) := by
      have hvb : ∀ g ∈ blk vb, w2.heap.size ≤ g := fun g hg => (World.ownsRow.lt HO5.out g (blk_own hg)).1
      have k1 := (H22.out.below HB5.out)
      have k2 := (HR2.out.below HB5.out)
      refine ⟨?_, (k1.kp.imp fun x hx => hx.1).and (kp_row (n := n + le) (xs := y1.xs ++ y.xs) (by rw [evals_app]; exact HO5.out) (by rw [List.length_append, HXL.out, HYL.out]) (fun g hg hm => ?_) (fun x hx => ?_) fun x hx => ?_), ⟨k1.wf.kind, k1.wf.epoch, k1.wf.mem, k1.wf.pos, k1.wf.last, fun e he => ?_⟩⟩
      · show (y1.xs ++ y.xs).map (·.p) = m.now.ents ++ r.ents
        rw [List.map_append, k1.eq, k2.eq]
      · have h1 := hvb g hg
        rcases List.mem_cons.mp hm with e | e
        · omega
        · have := HM.out g e; omega
      · rcases List.mem_append.mp hx with e | e
        · exact k1.kp.imp fun _ hx => hx.2.seen x e
        · exact k2.kp.imp fun _ hx => hx.2.seen x e
      · rcases List.mem_append.mp hx with e | e
        · exact HQ1.out.wf x e
        · exact HQ2.out.wf x e
      · rcases List.mem_append.mp he with e | e
        · exact k1.wf.ents _ e
        · exact k2.wf.ents _ e
    have HFIN : Hid (RetRa M w B { m with now := { m.now with ents := m.now.ents ++ r.ents } } (.returned (.tuple #[])) (w5.setCell ⟨B, 5, none⟩ (.slice vb (n + le) vd))) :=
      ⟨rfl, Nx.put HNB.out HSB5.out (chg_set1 w5 B 5 _) HR5.out (H32.out.below HB5.out), (Chg.mono (Chg.of_below (HE2.out.trans (HB5.out.mono HE2.out.size))) (fun g hg => absurd hg List.not_mem_nil)).trans (chg_set1 w5 B 5 _)⟩
    have hS6 : (w5.setCell ⟨B, 5, none⟩ (.slice vb (n + le) vd)).cell? ⟨w.heap.size, 5, none⟩ = some (.slice y.ea le y.ec) := (chg_set1 w5 B 5 _).cell hSw (by simp; omega)
    refine wpAnyH_oneS2 (i := 14) rfl (by kernel_rfl) (by rfl) (fun K hK => ?_)
    go_simp
    refine hK.out _ _ (fun x => x.cell? ⟨w.heap.size, 5, none⟩ = some (.slice y.ea le y.ec)) (fun _ h => h) (hS6) ?_
    clear hK K
    refine wpAnyH_done (by kernel_rfl) ?_ _
    refine NoPanic.normal ?_
    go_wp2
    go_end0
    exact HFIN.out

set_option maxRecDepth 100000 in
set_option maxHeartbeats 2000000 in
theorem refApply_2 (h : Nx M w B m) (hr : Rk (B :: M) w y r) (hlm : r.mem.length = lm) (hle : r.ents.length = le) (hk : r.kind = k) (hk2 : k = 2) :
    Calls Tryz.prog 8 #[.pointer (some ⟨B, 0, none⟩), .agg #[.int .i64 k, .int .i64 r.epoch, .slice y.ma lm y.mc, .int .i64 r.pos, .int .i64 r.last, .slice y.ea le y.ec]] w (RetRa M w B { m with sealed := true }) := by
  have d1 : (k == 1) = false := by rw [hk2]; rfl
  have d2 : (k == 2) = true := by rw [hk2]; rfl
  clear hk2
  have HLM := Lib.hid hlm
  have HLE := Lib.hid hle
  have HK := Lib.hid hk
  have hbl := below_one w (.cells #[.int .i64 k, .int .i64 r.epoch, .slice y.ma lm y.mc, .int .i64 r.pos, .int .i64 r.last, .slice y.ea le y.ec] 35)
  have HB : Hid (Bx (w.alloc (.cells #[.int .i64 k, .int .i64 r.epoch, .slice y.ma lm y.mc, .int .i64 r.pos, .int .i64 r.last, .slice y.ea le y.ec] 35)) w.heap.size 35 #[.int .i64 k, .int .i64 r.epoch, .slice y.ma lm y.mc, .int .i64 r.pos, .int .i64 r.last, .slice y.ea le y.ec]) := bx_new8 _ _ _
  have HE0 := Lib.hid hbl
  have HX := Lib.hid (h.below hbl)
  have HR := Lib.hid (hr.below hbl)
  clear h hr hle hlm hbl
  go_enter Tryz.func8, Tryz.ntmps8
  have k0 := HB.out.cell 0 (.int .i64 k) rfl
  have k1 := HB.out.cell 1 (.int .i64 r.epoch) rfl
  have k2 := HB.out.cell 2 (.slice y.ma lm y.mc) rfl
  have k3 := HB.out.cell 3 (.int .i64 r.pos) rfl
  have k4 := HB.out.cell 4 (.int .i64 r.last) rfl
  have k5 := HB.out.cell 5 (.slice y.ea le y.ec) rfl
  obtain ⟨hnB, y1, z1, hx, h2, h3⟩ := HX.out
  have HNB := Lib.hid hnB
  have HBX := Lib.hid hx
  have H2 := Lib.hid h2
  have H3 := Lib.hid h3
  clear hnB h2 h3 HX
  have c6 := hx.cell 6 (.bool m.sealed) rfl
  have f6 := hx.free 6
  clear hx HK hk
  have HF : Hid (RetRa M w B { m with sealed := true } (.returned (.tuple #[])) ((w.alloc (.cells #[.int .i64 k, .int .i64 r.epoch, .slice y.ma lm y.mc, .int .i64 r.pos, .int .i64 r.last, .slice y.ea le y.ec] 35)).setCell ⟨B, 6, none⟩ (.bool true))) :=
    ⟨rfl, Nx.put (y' := y1) (z' := z1) HNB.out (HBX.out.set 6 _ rfl) (chg_set1 _ B 6 _) H2.out H3.out, (Chg.mono (Chg.of_below HE0.out) (fun g hg => absurd hg List.not_mem_nil)).trans (chg_set1 _ B 6 _)⟩
  go_wp2
  go_end0
  exact HF.out

set_option maxRecDepth 100000 in
set_option maxHeartbeats 2000000 in
theorem refApply_3 (h : Nx M w B m) (hr : Rk (B :: M) w y r) (hlm : r.mem.length = lm) (hle : r.ents.length = le) (hk : r.kind = k) (hk3 : k = 3) :
    Calls Tryz.prog 8 #[.pointer (some ⟨B, 0, none⟩), .agg #[.int .i64 k, .int .i64 r.epoch, .slice y.ma lm y.mc, .int .i64 r.pos, .int .i64 r.last, .slice y.ea le y.ec]] w (RetRa M w B { m with staged := r }) := by
  have d1 : (k == 1) = false := by rw [hk3]; rfl
  have d2 : (k == 2) = false := by rw [hk3]; rfl
  have d3 : (k == 3) = true := by rw [hk3]; rfl
  clear hk3
  have HLM := Lib.hid hlm
  have HLE := Lib.hid hle
  have HK := Lib.hid hk
  have hbl := below_one w (.cells #[.int .i64 k, .int .i64 r.epoch, .slice y.ma lm y.mc, .int .i64 r.pos, .int .i64 r.last, .slice y.ea le y.ec] 35)
  have HB : Hid (Bx (w.alloc (.cells #[.int .i64 k, .int .i64 r.epoch, .slice y.ma lm y.mc, .int .i64 r.pos, .int .i64 r.last, .slice y.ea le y.ec] 35)) w.heap.size 35 #[.int .i64 k, .int .i64 r.epoch, .slice y.ma lm y.mc, .int .i64 r.pos, .int .i64 r.last, .slice y.ea le y.ec]) := bx_new8 _ _ _
  have HE0 := Lib.hid hbl
  have HX := Lib.hid (h.below hbl)
  have HR := Lib.hid (hr.below hbl)
  clear h hr hle hlm hbl
  go_enter Tryz.func8, Tryz.ntmps8
  have k0 := HB.out.cell 0 (.int .i64 k) rfl
  have k1 := HB.out.cell 1 (.int .i64 r.epoch) rfl
  have k2 := HB.out.cell 2 (.slice y.ma lm y.mc) rfl
  have k3 := HB.out.cell 3 (.int .i64 r.pos) rfl
  have k4 := HB.out.cell 4 (.int .i64 r.last) rfl
  have k5 := HB.out.cell 5 (.slice y.ea le y.ec) rfl
  obtain ⟨hnB, y1, z1, hx, h2, h3⟩ := HX.out
  have HNB := Lib.hid hnB
  have HBX := Lib.hid hx
  have H2 := Lib.hid h2
  have H3 := Lib.hid h3
  clear hnB h2 h3 HX
  clear hx hk
  go_wp2_with (refine wpList_st 35 6 B 7 37 #[.int .i64 k, .int .i64 r.epoch, .slice y.ma lm y.mc, .int .i64 r.pos, .int .i64 r.last, .slice y.ea le y.ec] (mcells y1 z1 m) (mcells y1 y { m with staged := r }) _ _ rfl rfl rfl rfl rfl (by kernel_rfl) rfl HBX.out (by show 13 ≤ 13; omega) (by simp [Value.oneCell']) (by rw [← HLM.out, ← HLE.out, ← HK.out]; rfl) ?_; intro w3 hb3 hc3)
  have HF : Hid (RetRa M w B { m with staged := r } (.returned (.tuple #[])) w3) := ⟨rfl, Nx.put (y' := y1) (z' := y) HNB.out hb3 hc3 H2.out HR.out, (Chg.mono (Chg.of_below HE0.out) (fun g hg => absurd hg List.not_mem_nil)).trans hc3⟩
  clear hb3 hc3
  go_wp2
  go_end0
  exact HF.out

set_option maxRecDepth 100000 in
set_option maxHeartbeats 2000000 in
theorem refApply_4 (h : Nx M w B m) (hr : Rk (B :: M) w y r) (hlm : r.mem.length = lm) (hle : r.ents.length = le) (hk : r.kind = k) (hk4 : k = 4) :
    Calls Tryz.prog 8 #[.pointer (some ⟨B, 0, none⟩), .agg #[.int .i64 k, .int .i64 r.epoch, .slice y.ma lm y.mc, .int .i64 r.pos, .int .i64 r.last, .slice y.ea le y.ec]] w (RetRa M w B ⟨r, false, pr0⟩) := by
  have d1 : (k == 1) = false := by rw [hk4]; rfl
  have d2 : (k == 2) = false := by rw [hk4]; rfl
  have d3 : (k == 3) = false := by rw [hk4]; rfl
  have d4 : (k == 4) = true := by rw [hk4]; rfl
  clear hk4
  have HLM := Lib.hid hlm
  have HLE := Lib.hid hle
  have HK := Lib.hid hk
  have hbl := below_one w (.cells #[.int .i64 k, .int .i64 r.epoch, .slice y.ma lm y.mc, .int .i64 r.pos, .int .i64 r.last, .slice y.ea le y.ec] 35)
  have HB : Hid (Bx (w.alloc (.cells #[.int .i64 k, .int .i64 r.epoch, .slice y.ma lm y.mc, .int .i64 r.pos, .int .i64 r.last, .slice y.ea le y.ec] 35)) w.heap.size 35 #[.int .i64 k, .int .i64 r.epoch, .slice y.ma lm y.mc, .int .i64 r.pos, .int .i64 r.last, .slice y.ea le y.ec]) := bx_new8 _ _ _
  have HE0 := Lib.hid hbl
  have HX := Lib.hid (h.below hbl)
  have HR := Lib.hid (hr.below hbl)
  clear h hr hle hlm hbl
  go_enter Tryz.func8, Tryz.ntmps8
  have k0 := HB.out.cell 0 (.int .i64 k) rfl
  have k1 := HB.out.cell 1 (.int .i64 r.epoch) rfl
  have k2 := HB.out.cell 2 (.slice y.ma lm y.mc) rfl
  have k3 := HB.out.cell 3 (.int .i64 r.pos) rfl
  have k4 := HB.out.cell 4 (.int .i64 r.last) rfl
  have k5 := HB.out.cell 5 (.slice y.ea le y.ec) rfl
  obtain ⟨hnB, y1, z1, hx, h2, h3⟩ := HX.out
  have HNB := Lib.hid hnB
  have HBX := Lib.hid hx
  have H2 := Lib.hid h2
  have H3 := Lib.hid h3
  clear hnB h2 h3 HX
  clear hx hk
  go_wp2_with (first
    | (refine wpList_st 35 6 B 0 37 #[.int .i64 k, .int .i64 r.epoch, .slice y.ma lm y.mc, .int .i64 r.pos, .int .i64 r.last, .slice y.ea le y.ec] (mcells y1 z1 m) (mcells y z1 { m with now := r }) _ _ rfl rfl rfl rfl rfl (by kernel_rfl) rfl HBX.out (by show 6 ≤ 13; omega) (by simp [Value.oneCell']) (by rw [← HLM.out, ← HLE.out, ← HK.out]; rfl) ?_; intro w3 hb3 hc3; have HB3 := Lib.hid hb3; have HC3 := Lib.hid hc3; have c6 := hb3.cell 6 (.bool m.sealed) rfl; have f6 := hb3.free 6; have HB4 := Lib.hid (hb3.set (C' := mcells y z1 ⟨r, false, m.staged⟩) 6 (.bool false) rfl); clear hb3 hc3)
    | (refine wpList_st 35 6 B 7 37 #[.int .i64 0, .int .i64 0, .slice none 0 0, .int .i64 0, .int .i64 0, .slice none 0 0] (mcells y z1 ⟨r, false, m.staged⟩) (mcells y ly0 ⟨r, false, pr0⟩) _ _ rfl rfl rfl rfl rfl (by kernel_rfl) rfl HB4.out (by show 13 ≤ 13; omega) (by simp [Value.oneCell']) rfl ?_; intro w5 hb5 hc5; have HB5 := Lib.hid hb5; have HC5 := Lib.hid hc5; clear hb5 hc5))
  have HCH : Hid (Chg [B] (w.alloc (.cells #[.int .i64 k, .int .i64 r.epoch, .slice y.ma lm y.mc, .int .i64 r.pos, .int .i64 r.last, .slice y.ea le y.ec] 35)) w5) := (HC3.out.trans (chg_set1 w3 B 6 (.bool false))).trans HC5.out
  have HF : Hid (RetRa M w B ⟨r, false, pr0⟩ (.returned (.tuple #[])) w5) := ⟨rfl, Nx.put (y' := y) (z' := ly0) HNB.out HB5.out HCH.out HR.out (rk0 _ _), (Chg.mono (Chg.of_below HE0.out) (fun g hg => absurd hg List.not_mem_nil)).trans HCH.out⟩
  go_wp2
  go_end0
  exact HF.out

set_option maxRecDepth 100000 in
set_option maxHeartbeats 2000000 in
theorem refApply_0 (h : Nx M w B m) (hr : Rk (B :: M) w y r) (hlm : r.mem.length = lm) (hle : r.ents.length = le) (hk : r.kind = k) (n1 : k ≠ 1) (n2 : k ≠ 2) (n3 : k ≠ 3) (n4 : k ≠ 4) :
    Calls Tryz.prog 8 #[.pointer (some ⟨B, 0, none⟩), .agg #[.int .i64 k, .int .i64 r.epoch, .slice y.ma lm y.mc, .int .i64 r.pos, .int .i64 r.last, .slice y.ea le y.ec]] w (RetRa M w B m) := by
  have d1 : (k == 1) = false := by simp [n1]
  have d2 : (k == 2) = false := by simp [n2]
  have d3 : (k == 3) = false := by simp [n3]
  have d4 : (k == 4) = false := by simp [n4]
  clear n1 n2 n3 n4
  have HLM := Lib.hid hlm
  have HLE := Lib.hid hle
  have HK := Lib.hid hk
  have hbl := below_one w (.cells #[.int .i64 k, .int .i64 r.epoch, .slice y.ma lm y.mc, .int .i64 r.pos, .int .i64 r.last, .slice y.ea le y.ec] 35)
  have HB : Hid (Bx (w.alloc (.cells #[.int .i64 k, .int .i64 r.epoch, .slice y.ma lm y.mc, .int .i64 r.pos, .int .i64 r.last, .slice y.ea le y.ec] 35)) w.heap.size 35 #[.int .i64 k, .int .i64 r.epoch, .slice y.ma lm y.mc, .int .i64 r.pos, .int .i64 r.last, .slice y.ea le y.ec]) := bx_new8 _ _ _
  have HE0 := Lib.hid hbl
  have HX := Lib.hid (h.below hbl)
  have HR := Lib.hid (hr.below hbl)
  clear h hr hle hlm hbl
  go_enter Tryz.func8, Tryz.ntmps8
  have k0 := HB.out.cell 0 (.int .i64 k) rfl
  have k1 := HB.out.cell 1 (.int .i64 r.epoch) rfl
  have k2 := HB.out.cell 2 (.slice y.ma lm y.mc) rfl
  have k3 := HB.out.cell 3 (.int .i64 r.pos) rfl
  have k4 := HB.out.cell 4 (.int .i64 r.last) rfl
  have k5 := HB.out.cell 5 (.slice y.ea le y.ec) rfl
  go_wp2
  go_end0
  exact ⟨rfl, HX.out, Chg.mono (Chg.of_below HE0.out) (fun g hg => absurd hg List.not_mem_nil)⟩

/-- A record is applied to the document's store. -/
theorem refApply_any (h : Nx M w B m) (hr : Rk (B :: M) w y r) (hlm : r.mem.length = lm) (hle : r.ents.length = le) (hk : r.kind = k) (hs : m.now.ents.length ≤ 900000) (hl : le ≤ 10000) (hM : ∀ g ∈ M, g < w.heap.size) :
    Calls Tryz.prog 8 #[.pointer (some ⟨B, 0, none⟩), .agg #[.int .i64 k, .int .i64 r.epoch, .slice y.ma lm y.mc, .int .i64 r.pos, .int .i64 r.last, .slice y.ea le y.ec]] w (RetRa M w B (appS m r)) := by
  by_cases e1 : k = 1
  · rw [appS_one (by rw [hk, e1])]
    exact refApply_1 h hr hle e1 hs hl hM
  by_cases e2 : k = 2
  · rw [appS_two (by rw [hk, e2])]
    exact refApply_2 h hr hlm hle hk e2
  by_cases e3 : k = 3
  · rw [appS_three (by rw [hk, e3])]
    exact refApply_3 h hr hlm hle hk e3
  by_cases e4 : k = 4
  · rw [appS_four (by rw [hk, e4])]
    exact refApply_4 h hr hlm hle hk e4
  rw [appS_not (by rw [hk]; exact e1) (by rw [hk]; exact e2) (by rw [hk]; exact e3) (by rw [hk]; exact e4)]
  exact refApply_0 h hr hlm hle hk e1 e2 e3 e4

end

end Go.Proofs.YtdgpbdedaafdiaaGreat
