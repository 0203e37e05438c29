/-
  Memory for keys: a slice of entries of the call's own whose bytes lie anywhere else; maps of the call's own whose values are places; slices of numbers and of texts of the call's own.
-/
import Derived.Test.YtdgpbdedaafdiaaGreatKy
import Derived.Test.YtdgpbdedaafdiaaGreatWalksY7
import Derived.Maps.OwnSet
import Derived.Maps.OwnOps
import Derived.Maps.RangeWalk
import Derived.Sort.EncStr
namespace Go.Proofs.YtdgpbdedaafdiaaGreat
open Go.RowKit Go.Maps Go.Sort

/-- A slice of entries of the call's own (or nil), their bytes in other blocks. -/
structure Eo (w : World) (base : Nat) (v : Value) (xs : List El) : Prop where
  own : w.ownsRow base 41 8 v xs.length (evals xs)
  seen : ∀ x ∈ xs, SeenAt w x.loc x.cap x.p.frag
  off : ∀ x ∈ xs, x.p.frag ≠ [] → ∀ b o, x.loc = some ⟨b, o, none⟩ → b < w.heap.size ∧ ∀ g, v.ownBlock = some g → b ≠ g
  wf : ∀ x ∈ xs, x.p.Wf

theorem eo_nil (w : World) (base : Nat) : Eo w base (.slice none 0 0) [] := ⟨World.ownsRow_nil _ _ _ _, by simp, by simp, by simp⟩

theorem Eo.below {w w' : World} {base : Nat} {v : Value} {xs : List El} (h : Eo w base v xs) (hb : Below w.heap.size w w') : Eo w' base v xs :=
  ⟨(Chg.of_below (gs := []) hb).owns h.own (by simp), fun x hx => (h.seen x hx).below hb, fun x hx hf b o e => by obtain ⟨h1, h2⟩ := h.off x hx hf b o e; exact ⟨Nat.lt_of_lt_of_le h1 hb.size, h2⟩, h.wf⟩

theorem Eo.push {w w' : World} {base g' c' : Nat} {v : Value} {xs : List El} {x : El} (h : Eo w base v xs) (hg : w.grownBy w' v.ownBlock) (ho : w'.ownsRow base 41 8 (.slice (some ⟨g', 0, none⟩) (xs.length + 1) c') (xs.length + 1) (evals (xs ++ [x])))
    (hat : v.ownBlock = some g' ∨ w.heap.size ≤ g') (hs : SeenAt w x.loc x.cap x.p.frag) (hf : x.p.frag ≠ [] → ∀ b o, x.loc = some ⟨b, o, none⟩ → b < w.heap.size ∧ ∀ g, v.ownBlock = some g → b ≠ g) (hw : x.p.Wf) :
    Eo w' base (.slice (some ⟨g', 0, none⟩) (xs.length + 1) c') (xs ++ [x]) := by
  have each : ∀ y : El, SeenAt w y.loc y.cap y.p.frag → (y.p.frag ≠ [] → ∀ b o, y.loc = some ⟨b, o, none⟩ → b < w.heap.size ∧ ∀ g, v.ownBlock = some g → b ≠ g) →
      SeenAt w' y.loc y.cap y.p.frag ∧ (y.p.frag ≠ [] → ∀ b o, y.loc = some ⟨b, o, none⟩ → b < w'.heap.size ∧ ∀ g, Value.ownBlock (.slice (some ⟨g', 0, none⟩) (xs.length + 1) c') = some g → b ≠ g) := by
    intro y hy hyf
    refine ⟨?_, fun hne b o e => ?_⟩
    · by_cases h0 : y.p.frag = []
      · rw [h0]; exact SeenAt.nil hy.max
      cases hv : v.ownBlock with
      | none => rw [hv] at hg; exact hy.below (below_grow hg)
      | some g =>
        rw [hv] at hg
        refine hy.chg (Chg.of_grown hg) (fun b o e hm => ?_)
        have : b = g := by simpa using hm
        exact (hyf h0 b o e).2 g hv this
    · obtain ⟨h2, h3⟩ := hyf hne b o e
      refine ⟨Nat.lt_of_lt_of_le h2 hg.size, fun g e' => ?_⟩
      have : g' = g := by simpa [Value.ownBlock] using e'
      subst this
      rcases hat with hat | hat
      · exact h3 g' hat
      · omega
  refine ⟨by rw [List.length_append]; exact ho, fun y hy => ?_, fun y hy => ?_, fun y hy => ?_⟩
  · rcases List.mem_append.mp hy with hy | hy
    · exact (each y (h.seen y hy) (h.off y hy)).1
    · rw [List.mem_singleton.mp hy]; exact (each x hs hf).1
  · rcases List.mem_append.mp hy with hy | hy
    · exact (each y (h.seen y hy) (h.off y hy)).2
    · rw [List.mem_singleton.mp hy]; exact (each x hs hf).2
  · rcases List.mem_append.mp hy with hy | hy
    · exact h.wf y hy
    · rw [List.mem_singleton.mp hy]; exact hw

theorem Eo.at_ {w : World} {base n c : Nat} {a : Option Addr} {xs : List El} (h : Eo w base (.slice a n c) xs) : xs.length = n ∧ EnsAt w a c (xs.map (·.p)) := by
  have hx := h.own
  rcases hx.2 with ⟨hv, h0⟩ | ⟨g, cap', cur, hv, _, hg, hnc, hcm, _⟩
  · have e0 : xs = [] := List.length_eq_zero_iff.mp h0
    subst e0
    cases hv
    exact ⟨rfl, EnsAt.nil (Nat.zero_le _)⟩
  · cases hv
    refine ⟨rfl, ⟨by simpa using hnc, hcm, fun i hi => ?_, fun e he => ?_⟩⟩
    · have hi' : i < xs.length := by simpa using hi
      have e : (xs.map (·.p)).getD i pe0 = (xs.getD i el0).p := by
        rw [List.getD_eq_getElem?_getD, List.getD_eq_getElem?_getD, List.getElem?_map, List.getElem?_eq_getElem hi']; rfl
      rw [e]
      have hc : ∀ k, k < 8 → w.cell? ⟨g, 0 + i * 8 + k, none⟩ = (ecells (xs.getD i el0))[k]? := fun k hk => by
        rw [Nat.zero_add, World.ownsRow.cellAt h.own (i * 8 + k) (by omega), evals_at xs i k hi' hk]
      exact ⟨g, 0, (xs.getD i el0).loc, (xs.getD i el0).cap, rfl, hc 0 (by omega), hc 1 (by omega), hc 2 (by omega), hc 3 (by omega), hc 4 (by omega), hc 5 (by omega), hc 6 (by omega), hc 7 (by omega), h.seen _ (getD_mem xs i el0 hi')⟩
    · obtain ⟨x, hx', rfl⟩ := List.mem_map.mp he
      exact h.wf x hx'

theorem seen_lt {w : World} {a : Option Addr} {c : Nat} {ps : List Nat} (h : SeenAt w a c ps) (h0 : ps ≠ []) {b o : Nat} (e : a = some ⟨b, o, none⟩) : b < w.heap.size := by
  obtain ⟨b', o', e', hc⟩ := h.cell 0 (List.length_pos_iff.mpr h0)
  rw [e] at e'
  cases e'
  exact World.block_lt_of_cell? w _ hc

/-- append(list, e), e laid in a block of its own. -/
theorem wpList_appO {ops : Array Oper} {rest : List Oper} {o : Oper} {a : Act} {Q : Exit → Act → World → Prop} {w : World} (hgd : o.guard = none) (s x : Operand)
    (ho : o.op = .call { callee := .builtin .append, args := #[s, x], argTypes := #[33, 33] })
    (base : Nat) (v : Value) (xs : List El) (n : Nat) (hn : xs.length = n) (hs : a.eval s = v) (hown : Eo w base v xs) (y : El)
    (B xc : Nat) (hx : a.eval x = .slice (some ⟨B, 0, none⟩) 1 xc) (hc : ∀ k u, (ecells y)[k]? = some u → w.cell? ⟨B, k, none⟩ = some u) (hb : n ≤ 1000000) (hbase : base ≤ w.heap.size)
    (hsy : SeenAt w y.loc y.cap y.p.frag) (hfy : y.p.frag ≠ [] → ∀ b o, y.loc = some ⟨b, o, none⟩ → b < w.heap.size ∧ ∀ g, v.ownBlock = some g → b ≠ g) (hwy : y.p.Wf)
    (h : ∀ g' cap' w', Eo w' base (.slice (some ⟨g', 0, none⟩) (n + 1) cap') (xs ++ [y]) → w.grownBy w' v.ownBlock → wpList Tryz.prog ops Q rest (a.put o.dst (.slice (some ⟨g', 0, none⟩) (n + 1) cap')) w') :
    wpList Tryz.prog ops Q (o :: rest) a w := by
  obtain ⟨i, hi, hz, hsz, hby⟩ := info_parts infoE
  subst hn
  refine wpList_append_lies w hgd s x 33 ho base 41 i _ 8 88 Tryz.underlying33 hi hz hsz hby rfl (by omega) v _ _ hs hown.own ⟨B, 0, none⟩ 1 xc (ecells y) hx rfl
    (fun j u hj => ?_) (by simp [ecells, Value.oneCell']) (by omega) (by unfold maxLen; omega) (by omega) hbase w.heap.size rfl ?_
  · have := hc j u hj
    rw [Go.WideShapes.add_plain, Nat.zero_add]
    exact this
  · intro g' cap' w' hown' hg hat hlt
    refine h g' cap' w' (hown.push hg ?_ ?_ hsy hfy hwy) hg
    · rw [evals_app]
      show World.ownsRow _ _ _ _ _ _ (evals xs ++ (ecells y ++ []))
      rw [List.append_nil]
      exact hown'
    · rcases hat with hat | hat
      · exact .inl hat
      · exact .inr (by omega)

/-! ## Maps whose values are places -/

/-- Block b is a map of at most n entries; M says what it holds. -/
def MapP {α : Type} (w : World) (kt : TypeId) (mk : α → Lit) (b n : Nat) (M : α → Option Nat) : Prop :=
  ∃ D : DataW Unit, w.ownsMap Tryz.prog kt (plainElem Tryz.prog 3) b n D ∧ ∀ x, Maps.has D (mk x) = (M x).isSome ∧ ∀ i, M x = some i → ∀ zd, D.atKey (mk x) zd = .lit (.int .i64 (i : Int))

theorem MapP.lt {α : Type} {w : World} {kt : TypeId} {mk : α → Lit} {b n : Nat} {M : α → Option Nat} (h : MapP w kt mk b n M) : b < w.heap.size := by obtain ⟨D, hD, _⟩ := h; exact hD.lt

theorem MapP.mono {α : Type} {w : World} {kt : TypeId} {mk : α → Lit} {b n n' : Nat} {M : α → Option Nat} (h : MapP w kt mk b n M) (hn : n ≤ n') : MapP w kt mk b n' M := by obtain ⟨D, hD, h2⟩ := h; exact ⟨D, hD.mono hn, h2⟩

theorem MapP.eq {α : Type} {w : World} {kt : TypeId} {mk : α → Lit} {b n : Nat} {M M' : α → Option Nat} (h : MapP w kt mk b n M) (e : ∀ x, M' x = M x) : MapP w kt mk b n M' := by
  have : M' = M := funext e
  rw [this]; exact h

theorem ownsMap_chg {H : Type} {P : Program} {kt : TypeId} {R : Value → Option (DataW H × List MemPlace)} {gs : List Nat} {w w' : World} {b n : Nat} {D : DataW H} (h : w.ownsMap P kt R b n D) (hb : Chg gs w w') (hn : b ∉ gs) : w'.ownsMap P kt R b n D := by
  have hlt := h.lt
  obtain ⟨es, clock, hg, F, hs, hD⟩ := h
  exact ⟨es, clock, (hb.block b hlt hn).trans hg, F, hs, hD⟩

theorem MapP.chg {α : Type} {gs : List Nat} {w w' : World} {kt : TypeId} {mk : α → Lit} {b n : Nat} {M : α → Option Nat} (h : MapP w kt mk b n M) (hb : Chg gs w w') (hn : b ∉ gs) : MapP w' kt mk b n M := by
  obtain ⟨D, hD, h2⟩ := h
  exact ⟨D, ownsMap_chg hD hb hn, h2⟩

theorem MapP.below {α : Type} {w w' : World} {kt : TypeId} {mk : α → Lit} {b n : Nat} {M : α → Option Nat} (h : MapP w kt mk b n M) (hb : Below w.heap.size w w') : MapP w' kt mk b n M := h.chg (gs := []) (Chg.of_below hb) (by simp)

theorem mapP_made {α : Type} (w : World) (kt : TypeId) (mk : α → Lit) : MapP (w.alloc (.map #[] 0)) kt mk w.heap.size 0 (fun _ => none) :=
  ⟨.map [], World.ownsMap_made w _ _ _, fun x => ⟨rfl, fun i h => by cases h⟩⟩

theorem wf_place {i : Nat} (h : i ≤ 1000000000) : (Lit.int .i64 (i : Int)).wf = true := by
  simp [Lit.wf, IntKind.min, IntKind.max, IntKind.signed, IntKind.bits]
  omega

/-- What a store, a deletion turns. -/
theorem mapP_put {α : Type} [DecidableEq α] {mk : α → Lit} {M : α → Option Nat} {D : DataW Unit} (hi : ∀ x y, mk x = mk y → x = y) (hk : ∀ x, WideAt.IsKeyLit (mk x)) (hm : IsMap D)
    (h : ∀ x, Maps.has D (mk x) = (M x).isSome ∧ ∀ i, M x = some i → ∀ zd, D.atKey (mk x) zd = .lit (.int .i64 (i : Int))) (x0 : α) (i0 : Nat) :
    ∀ x, Maps.has (D.put (mk x0) (.lit (.int .i64 (i0 : Int)))) (mk x) = (if x = x0 then some i0 else M x).isSome ∧ ∀ i, (if x = x0 then some i0 else M x) = some i → ∀ zd, (D.put (mk x0) (.lit (.int .i64 (i0 : Int)))).atKey (mk x) zd = .lit (.int .i64 (i : Int)) := by
  intro x
  by_cases e : x = x0
  · subst e
    rw [if_pos rfl]
    exact ⟨has_put_same hm (hk x) _, fun i hi' zd => by cases hi'; exact atKey_put_same hm (hk x) _ _⟩
  · rw [if_neg e]
    have hne : mk x ≠ mk x0 := fun h' => e (hi _ _ h')
    exact ⟨(has_put_other hne _).trans (h x).1, fun i hi' zd => (atKey_put_other hne _ _).trans ((h x).2 i hi' zd)⟩

theorem mapP_del {α : Type} [DecidableEq α] {mk : α → Lit} {M : α → Option Nat} {D : DataW Unit} (hi : ∀ x y, mk x = mk y → x = y)
    (h : ∀ x, Maps.has D (mk x) = (M x).isSome ∧ ∀ i, M x = some i → ∀ zd, D.atKey (mk x) zd = .lit (.int .i64 (i : Int))) (x0 : α) :
    ∀ x, Maps.has (D.del (mk x0)) (mk x) = (if x = x0 then none else M x).isSome ∧ ∀ i, (if x = x0 then none else M x) = some i → ∀ zd, (D.del (mk x0)).atKey (mk x) zd = .lit (.int .i64 (i : Int)) := by
  intro x
  by_cases e : x = x0
  · subst e
    rw [if_pos rfl]
    exact ⟨has_del_same, fun i hi' zd => by cases hi'⟩
  · rw [if_neg e]
    have hne : mk x ≠ mk x0 := fun h' => e (hi _ _ h')
    exact ⟨(has_del_other hne).trans (h x).1, fun i hi' zd => (atKey_del_other hne _).trans ((h x).2 i hi' zd)⟩

/-- The two kinds of key. -/
def mkS (x : List UInt8) : Lit := .string x
def mkI (x : Int) : Lit := .int .i64 x
theorem mkS_inj (x y : List UInt8) (h : mkS x = mkS y) : x = y := by cases h; rfl
theorem mkI_inj (x y : Int) (h : mkI x = mkI y) : x = y := by cases h; rfl
theorem mkS_key (x : List UInt8) : WideAt.IsKeyLit (mkS x) := by simp [mkS, WideAt.IsKeyLit]
theorem mkI_key (x : Int) : WideAt.IsKeyLit (mkI x) := by simp [mkI, WideAt.IsKeyLit]

/-- The values of a map, each once, in some order. -/
def ValsOf {α : Type} (M : α → Option Nat) (vs : List Nat) : Prop := ∃ ks : List α, ks.Nodup ∧ (∀ x, x ∈ ks ↔ (M x).isSome = true) ∧ vs = ks.map fun x => (M x).getD 0

theorem ValsOf.mem {α : Type} {M : α → Option Nat} {vs : List Nat} (h : ValsOf M vs) (p : Nat) : p ∈ vs ↔ ∃ x, M x = some p := by
  obtain ⟨ks, _, hk, rfl⟩ := h
  rw [List.mem_map]
  constructor
  · rintro ⟨x, hx, rfl⟩
    have := (hk x).1 hx
    obtain ⟨i, hi⟩ := Option.isSome_iff_exists.1 this
    exact ⟨x, by rw [hi]; rfl⟩
  · rintro ⟨x, hx⟩
    exact ⟨x, (hk x).2 (by rw [hx]; rfl), by rw [hx]; rfl⟩

theorem ValsOf.nodup {α : Type} {M : α → Option Nat} {vs : List Nat} (h : ValsOf M vs) (hi : ∀ x y p, M x = some p → M y = some p → x = y) : vs.Nodup := by
  obtain ⟨ks, hn, hk, rfl⟩ := h
  refine List.pairwise_map.2 (hn.imp_of_mem ?_)
  intro x y hx hy hne e
  obtain ⟨i, hi1⟩ := Option.isSome_iff_exists.1 ((hk x).1 hx)
  obtain ⟨j, hj1⟩ := Option.isSome_iff_exists.1 ((hk y).1 hy)
  rw [hi1, hj1] at e
  have e' : i = j := e
  subst e'
  exact hne (hi x y i hi1 hj1)

/-- The numbers of places. -/
def pvals (vs : List Nat) : List Int := vs.map fun (i : Nat) => (i : Int)

/-! ## A struct of eight cells in a block -/

theorem bx_new8 (w : World) (C : Array Value) (t : TypeId) : Bx (w.alloc (.cells C t)) w.heap.size t C := heap_alloc_new w _

theorem bx_set8 {w : World} {B : Nat} {t : TypeId} {C C' : Array Value} (h : Bx w B t C) (k : Nat) (v : Value) (hC : C.setIfInBounds k v = C') : Bx (w.setCell ⟨B, k, none⟩ v) B t C' := by
  subst hC
  exact heap_setCell_same w B k C t v h

theorem Bx.put8 {w : World} {B : Nat} {t : TypeId} {y0 y1 y2 y3 y4 y5 y6 y7 : Value} (h : Bx w B t #[y0, y1, y2, y3, y4, y5, y6, y7]) (v0 v1 v2 v3 v4 v5 v6 v7 : Value) :
    Bx ((((((((w.setCell ⟨B, 0, none⟩ v0).setCell ⟨B, 1, none⟩ v1).setCell ⟨B, 2, none⟩ v2).setCell ⟨B, 3, none⟩ v3).setCell ⟨B, 4, none⟩ v4).setCell ⟨B, 5, none⟩ v5).setCell ⟨B, 6, none⟩ v6).setCell ⟨B, 7, none⟩ v7) B t #[v0, v1, v2, v3, v4, v5, v6, v7] ∧
    Chg [B] w ((((((((w.setCell ⟨B, 0, none⟩ v0).setCell ⟨B, 1, none⟩ v1).setCell ⟨B, 2, none⟩ v2).setCell ⟨B, 3, none⟩ v3).setCell ⟨B, 4, none⟩ v4).setCell ⟨B, 5, none⟩ v5).setCell ⟨B, 6, none⟩ v6).setCell ⟨B, 7, none⟩ v7) := by
  have h0 := bx_set8 (C' := #[v0, y1, y2, y3, y4, y5, y6, y7]) h 0 v0 (by simp)
  have h1 := bx_set8 (C' := #[v0, v1, y2, y3, y4, y5, y6, y7]) h0 1 v1 (by simp)
  have h2 := bx_set8 (C' := #[v0, v1, v2, y3, y4, y5, y6, y7]) h1 2 v2 (by simp)
  have h3 := bx_set8 (C' := #[v0, v1, v2, v3, y4, y5, y6, y7]) h2 3 v3 (by simp)
  have h4 := bx_set8 (C' := #[v0, v1, v2, v3, v4, y5, y6, y7]) h3 4 v4 (by simp)
  have h5 := bx_set8 (C' := #[v0, v1, v2, v3, v4, v5, y6, y7]) h4 5 v5 (by simp)
  have h6 := bx_set8 (C' := #[v0, v1, v2, v3, v4, v5, v6, y7]) h5 6 v6 (by simp)
  have h7 := bx_set8 (C' := #[v0, v1, v2, v3, v4, v5, v6, v7]) h6 7 v7 (by simp)
  exact ⟨h7, (((((((chg_set w _ 0 v0).trans (chg_set _ _ 1 v1)).trans (chg_set _ _ 2 v2)).trans (chg_set _ _ 3 v3)).trans (chg_set _ _ 4 v4)).trans (chg_set _ _ 5 v5)).trans (chg_set _ _ 6 v6)).trans (chg_set _ _ 7 v7)⟩

/-- The cells of an entry. -/
def ecs (e : Pe) (loc : Option Addr) (c : Nat) : Array Value := #[.int .i64 e.seq, .int .i64 e.client, .int .i64 e.num, .int .i64 e.op, .string (strB e.key), .int .i64 e.size, .int .u32 (e.sum : Int), .slice loc e.frag.length c]

end Go.Proofs.YtdgpbdedaafdiaaGreat
