/-
  Copies of members and of entries, and what a store tells of itself.
  fields.CopyEntries; what a store tells of itself.
  What a store tells of itself, and what none does.
-/
import Derived.Test.YtdgpbdedaafdiaaGreatStN
import Derived.Test.YtdgpbdedaafdiaaGreatWalksK1
import Derived.Deep.DeepCutAuto
namespace Go.Proofs.YtdgpbdedaafdiaaGreat
open Go.RowKit






theorem ints_none {w : World} {c l : Nat} {zs : List Int} (h : IntsAt w none c zs) (hl : zs.length = l) : zs = [] ∧ l = 0 := by
  cases zs with
  | nil => exact ⟨rfl, hl.symm⟩
  | cons z zs => obtain ⟨b, o, e, _⟩ := h.cell 0 (by simp); cases e

theorem ens_none {w : World} {c l : Nat} {es : List Pe} (h : EnsAt w none c es) (hl : es.length = l) : es = [] ∧ l = 0 := by
  cases es with
  | nil => exact ⟨rfl, hl.symm⟩
  | cons z zs => obtain ⟨b, o, loc, c, e, _⟩ := h.el 0 (by simp); cases e

theorem ivals_at (zs : List Int) (i : Nat) (h : i < zs.length) : (ivals zs)[i]? = some (.int .i64 (zs.getD i 0)) := by
  simp [ivals, h]

/-- Members copied into new memory. -/
def RetCi (w : World) (zs : List Int) (e : Ending) (w' : World) : Prop :=
  ∃ a c, e = .returned (.slice a zs.length c) ∧ Rob w.heap.size w'.heap.size w' (fun x => IntsAt x a c zs) ∧ Below w.heap.size w w'

set_option maxRecDepth 100000 in
set_option maxHeartbeats 1000000 in
theorem cloneInts_any (a : Option Addr) (cap l : Nat) (zs : List Int) (w : World) (hl : zs.length = l) (hm : l ≤ 1000000) (h : IntsAt w a cap zs) :
    Calls Tryz.prog 63 #[.slice a l cap] w (RetCi w zs) := by
  have q22 : ∀ (w : World) (a : Option Addr) (n c n' c' : Nat), (binOp .eql 30 (.slice a n c) (.slice none n' c')).run Tryz.prog w = .ok (.bool a.isNone) w := fun w a n c n' c' => Lib.run_eql_slice_nil w _ _ a n c n' c' Tryz.underlying30
  have HL := Lib.hid hl
  have HS := Lib.hid h
  rcases a with _ | ad
  · obtain ⟨rfl, rfl⟩ := ints_none h hl
    clear hl h HL
    go_enter Tryz.func63, Tryz.ntmps63
    go_wp2
    go_ret
    exact ⟨none, 0, rfl, fun _ _ _ _ => IntsAt.nil (Nat.zero_le _), Below.refl _ _⟩
  · clear hl h
    have HC : Hid (∀ j u, (ivals zs)[j]? = some u → ∃ b off, some ad = some ⟨b, off, none⟩ ∧ (w.alloc (.cells #[] 3)).cell? ⟨b, off + j, none⟩ = some u) := fun j u hj => by
      have hlt : j < zs.length := by
        rcases Nat.lt_or_ge j zs.length with h | h
        · exact h
        · rw [List.getElem?_eq_none (by rw [ivals_len]; exact h)] at hj; cases hj
      obtain ⟨b, off, e, hc⟩ := HS.out.cell j hlt
      rw [ivals_at zs j hlt] at hj
      exact ⟨b, off, e, by rw [← hj]; exact cell_later (below_one _ _) hc⟩
    have HW : Hid (∀ z ∈ zs, I64 z) := fun z hz => by
      obtain ⟨i, hi, rfl⟩ := List.mem_iff_getElem.mp hz
      have := HS.out.wf i
      rwa [List.getD_eq_getElem?_getD, List.getElem?_eq_getElem hi] at this
    have HI1 : Hid (∀ u ∈ ivals zs, u.oneCell' = true) := fun u hu => by
      obtain ⟨z, _, rfl⟩ := List.mem_map.mp hu
      rfl
    go_enter Tryz.func63, Tryz.ntmps63
    go_wp2_with (at_builtin; refine wpList_appRaw rfl (.tmp 5) (.tmp 6) 30 3 rfl Tryz.underlying30 (.int .i64 0) 1 8 infoI rfl (by omega) (by omega) w.heap.size (some ⟨w.heap.size, 0, none⟩) 0 0 [] rfl (row_lit w w.heap.size w.heap.size 3 1 rfl (Nat.le_refl _)) (some ad) l cap (ivals zs) rfl (by rw [ivals_len, HL.out]; omega) HC.out HI1.out (by omega) (by simp) ?_; intro va vc w2 ho hg)
    have HR : Hid (RetCi w zs (.returned (.slice va l vc)) w2) := by
      rw [List.nil_append, Nat.zero_add] at ho
      have hk := ints_own ho HL.out HW.out
      have hb2 : Below w.heap.size w w2 := (Chg.of_grown hg).below (below_one w _) (by simp) (by simp)
      refine ⟨va, vc, by rw [HL.out], fun gs x hc hgs => hk.1.chg hc fun b o e hm => ?_, hb2⟩
      have h1 := hgs b hm
      have h2 := hk.2 b o e
      have h3 := World.ownsRow.lt ho b (by rw [e]; rfl)
      omega
    clear ho hg
    go_ret
    exact HR.out

set_option maxRecDepth 100000 in
set_option maxHeartbeats 1000000 in
/-- A configuration copied. -/
theorem copyConf_any (n : Int) (a : Option Addr) (cap l : Nat) (zs : List Int) (w : World) (hl : zs.length = l) (hm : l ≤ 1000000) (h : IntsAt w a cap zs) :
    Calls Tryz.prog 44 #[.agg #[.int .i64 n, .slice a l cap]] w fun e w' => ∃ a' c', e = .returned (.agg #[.int .i64 n, .slice a' l c']) ∧ Rob w.heap.size w'.heap.size w' (fun x => IntsAt x a' c' zs) ∧ Below w.heap.size w w' := by
  have HL := Lib.hid hl
  have HA0 : Hid (Bx (w.alloc (.cells #[.int .i64 n, .slice a l cap] 32)) w.heap.size 32 #[.int .i64 n, .slice a l cap]) := bx_new8 _ _ _
  have HZ0 : Hid (Bx ((w.alloc (.cells #[.int .i64 n, .slice a l cap] 32)).alloc (.cells #[.int .i64 0, .slice none 0 0] 32)) (w.heap.size + 1) 32 #[.int .i64 0, .slice none 0 0]) := by
    have := bx_new8 (w.alloc (.cells #[.int .i64 n, .slice a l cap] 32)) #[.int .i64 0, .slice none 0 0] 32
    rw [World.size_alloc] at this
    exact this
  have HA1 := Lib.hid (HA0.out.chg (gs := []) (Chg.of_below (below_one _ (.cells #[.int .i64 0, .slice none 0 0] 32))) (by simp))
  have HE0 := Lib.hid ((below_one w (.cells #[.int .i64 n, .slice a l cap] 32)).alloc (by simp) (.cells #[.int .i64 0, .slice none 0 0] 32))
  have HI := Lib.hid (h.below HE0.out)
  have HQ : Hid (((w.alloc (.cells #[.int .i64 n, .slice a l cap] 32)).alloc (.cells #[.int .i64 0, .slice none 0 0] 32)).heap.size = w.heap.size + 2) := by show _ = _; simp
  clear hl h HA0
  go_enter Tryz.func44, Tryz.ntmps44
  go_wp2_with fail
  generalize ((w.alloc (.cells #[.int .i64 n, .slice a l cap] 32)).alloc (.cells #[.int .i64 0, .slice none 0 0] 32)) = w1 at *
  refine (cloneInts_any a cap l zs w1 HL.out hm HI.out).mono ?_
  rintro e w2 ⟨a2, c2, rfl, hr2, hb2⟩
  rw [HL.out]
  have HA2 := Lib.hid (HA1.out.chg (gs := []) (Chg.of_below hb2) (by simp))
  have HZ2 := Lib.hid (HZ0.out.chg (gs := []) (Chg.of_below hb2) (by simp))
  have HE2 := Lib.hid (HE0.out.trans (hb2.mono HE0.out.size))
  have HR2 := Lib.hid hr2
  have HQ2 := hb2.size
  have hq1 := HQ.out
  clear hr2 hb2 HA1 HZ0 HE0 HI
  have k0 := HA2.out.cell 0 (.int .i64 n) rfl
  have k1 := HA2.out.cell 1 (.slice a l cap) rfl
  have f1 := HA2.out.free 1
  have y0 := HZ2.out.cell 0 (.int .i64 0) rfl
  have y1 := HZ2.out.cell 1 (.slice none 0 0) rfl
  have g0 := HZ2.out.free 0
  have g1 := HZ2.out.free 1
  go_wp2_with fail
  have HC : Hid (Chg [w.heap.size, w.heap.size + 1] w2 (((w2.setCell ⟨w.heap.size, 1, none⟩ (.slice a2 l c2)).setCell ⟨w.heap.size + 1, 0, none⟩ (.int .i64 n)).setCell ⟨w.heap.size + 1, 1, none⟩ (.slice a2 l c2))) :=
    (((chg_set1 w2 w.heap.size 1 _).mono (by simp)).trans ((chg_set1 _ (w.heap.size + 1) 0 _).mono (by simp))).trans ((chg_set1 _ (w.heap.size + 1) 1 _).mono (by simp))
  have HFX := Lib.hid (((HZ2.out.chg (chg_set1 w2 w.heap.size 1 (.slice a2 l c2)) (by simp)).set (C' := #[.int .i64 n, .slice none 0 0]) 0 (.int .i64 n) (by simp)).set (C' := #[.int .i64 n, .slice a2 l c2]) 1 (.slice a2 l c2) (by simp))
  have HSZ : Hid (w2.heap.size = (((w2.setCell ⟨w.heap.size, 1, none⟩ (.slice a2 l c2)).setCell ⟨w.heap.size + 1, 0, none⟩ (.int .i64 n)).setCell ⟨w.heap.size + 1, 1, none⟩ (.slice a2 l c2)).heap.size) := by show _ = _; simp
  generalize (((w2.setCell ⟨w.heap.size, 1, none⟩ (.slice a2 l c2)).setCell ⟨w.heap.size + 1, 0, none⟩ (.int .i64 n)).setCell ⟨w.heap.size + 1, 1, none⟩ (.slice a2 l c2)) = wf at *
  have q0 := HFX.out.cell 0 (.int .i64 n) rfl
  have q1 := HFX.out.cell 1 (.slice a2 l c2) rfl
  refine bodyPost_ret (v := .agg #[.int .i64 n, .slice a2 l c2]) (by simp [results, Tryz.results44, go_sem, q0, q1]) rfl ?_
  refine ⟨a2, c2, rfl, (HR2.out.chg HC.out (fun g hg => by simp at hg; omega)).wide (by omega) (Nat.le_of_eq HSZ.out), HC.out.below HE2.out HE2.out.size (by simp)⟩

/-! ## Entries -/

theorem ens_els {w : World} {a : Option Addr} {c : Nat} {es : List Pe} (h : EnsAt w a c es) :
    ∃ xs : List El, xs.map (·.p) = es ∧ (∀ j u, (evals xs)[j]? = some u → ∃ b off, a = some ⟨b, off, none⟩ ∧ w.cell? ⟨b, off + j, none⟩ = some u) ∧ ∀ x ∈ xs, SeenAt w x.loc x.cap x.p.frag := by
  have hq : ∀ i : Nat, ∃ q : Option Addr × Nat, i < es.length → ∃ b off, a = some ⟨b, off, none⟩ ∧ EnCells w b (off + i * 8) (es.getD i pe0) q.1 q.2 := fun i => by
    by_cases hi : i < es.length
    · obtain ⟨b, off, loc, c, e, hc⟩ := h.el i hi
      exact ⟨(loc, c), fun _ => ⟨b, off, e, hc⟩⟩
    · exact ⟨(none, 0), fun h => absurd h hi⟩
  obtain ⟨f, hf⟩ := Classical.axiomOfChoice hq
  let F : Nat → El := fun i => ⟨es.getD i pe0, (f i).1, (f i).2⟩
  have hlen : ((List.range es.length).map F).length = es.length := by simp
  have hget : ∀ i, i < es.length → ((List.range es.length).map F).getD i el0 = F i := fun i hi => by
    rw [List.getD_eq_getElem?_getD, List.getElem?_map, List.getElem?_range hi]; rfl
  refine ⟨(List.range es.length).map F, ?_, fun j u hj => ?_, fun x hx => ?_⟩
  · refine List.ext_getElem (by simp) fun i h1 h2 => ?_
    have h3 : i < es.length := h2
    rw [List.getElem_map, List.getElem_map, List.getElem_range]
    show es.getD i pe0 = _
    rw [List.getD_eq_getElem?_getD, List.getElem?_eq_getElem h3]
    rfl
  · have hlt : j < es.length * 8 := by
      rcases Nat.lt_or_ge j (es.length * 8) with h | h
      · exact h
      · rw [List.getElem?_eq_none (by rw [evals_len, hlen]; exact h)] at hj; cases hj
    have h1 : j / 8 < es.length := by omega
    rw [show j = j / 8 * 8 + j % 8 by omega, evals_at _ (j / 8) (j % 8) (by rw [hlen]; exact h1) (by omega), hget _ h1] at hj
    obtain ⟨b, off, e, hc⟩ := hf (j / 8) h1
    refine ⟨b, off, e, ?_⟩
    rw [show off + j = off + j / 8 * 8 + j % 8 by omega]
    have h8 : j % 8 = 0 ∨ j % 8 = 1 ∨ j % 8 = 2 ∨ j % 8 = 3 ∨ j % 8 = 4 ∨ j % 8 = 5 ∨ j % 8 = 6 ∨ j % 8 = 7 := by omega
    rcases h8 with h8 | h8 | h8 | h8 | h8 | h8 | h8 | h8 <;> rw [h8] at hj ⊢ <;> rw [← hj]
    · exact hc.c0
    · exact hc.c1
    · exact hc.c2
    · exact hc.c3
    · exact hc.c4
    · exact hc.c5
    · exact hc.c6
    · exact hc.c7
  · obtain ⟨i, hi, rfl⟩ := List.mem_map.mp hx
    obtain ⟨b, off, e, hc⟩ := hf i (List.mem_range.mp hi)
    exact hc.seen

theorem take_cat {α : Type} (A B : List α) (p q : Nat) (h : A.length = p) : (A ++ B).take (p + q) = A ++ B.take q := by
  subst h
  exact List.take_length_add_append q
theorem drop_cat {α : Type} (A B : List α) (p q : Nat) (h : A.length = p) : (A ++ B).drop (p + q) = B.drop q := by
  subst h
  exact List.drop_length_add_append q

theorem evals_set (xs : List El) (i : Nat) (y : El) (h : i < xs.length) : evals (xs.set i y) = (evals xs).take (i * 8) ++ ecells y ++ (evals xs).drop (i * 8 + 8) := by
  induction xs generalizing i with
  | nil => simp at h
  | cons x xs ih =>
    have h8 : (ecells x).length = 8 := rfl
    cases i with
    | zero =>
      show ecells y ++ evals xs = ((ecells x ++ evals xs).take (0 * 8) ++ ecells y ++ (ecells x ++ evals xs).drop (0 * 8 + 8))
      rw [Nat.zero_mul, List.take_zero, List.nil_append, Nat.zero_add, List.drop_append, h8, List.drop_eq_nil_of_le (by rw [h8]; exact Nat.le_refl _)]
      simp
    | succ i =>
      show ecells x ++ evals (xs.set i y) = ((ecells x ++ evals xs).take ((i + 1) * 8) ++ ecells y ++ (ecells x ++ evals xs).drop ((i + 1) * 8 + 8))
      rw [ih i (by simpa using h), show (i + 1) * 8 = 8 + i * 8 by omega, show 8 + i * 8 + 8 = 8 + (i * 8 + 8) by omega, take_cat _ _ 8 _ h8, drop_cat _ _ 8 _ h8]
      simp

/-- An entry is stored into a row of one's own. -/
theorem wpList_stE {ops : Array Oper} {rest : List Oper} {o : Oper} {a : Act} {Q : Exit → Act → World → Prop} {w : World} (hgd : o.guard = none) (x y : Operand) (ho : o.op = .store 41 x y) (hd : o.dst = none)
    (base g n cap i : Nat) (xs : List El) (Y : El) (hn : xs.length = n) (hown : w.ownsRow base 41 8 (.slice (some ⟨g, 0, none⟩) n cap) n (evals xs)) (hi : i < n)
    (hx : a.eval x = .pointer (some ⟨g, i * 8, none⟩)) (hy : a.eval y = .agg (ecells Y).toArray)
    (h : ∀ w', w'.ownsRow base 41 8 (.slice (some ⟨g, 0, none⟩) n cap) n (evals (xs.set i Y)) → Chg [g] w w' → wpList Tryz.prog ops Q rest a w') : wpList Tryz.prog ops Q (o :: rest) a w := by
  subst hn
  obtain ⟨hl, h0 | ⟨g', cap', cur, hv, hb, hg, hnc, hcm, hsz, htk⟩⟩ := hown
  · cases h0.1
  · cases hv
    have hcl : cur.toList.length = cap * 8 := by rw [Array.length_toList]; exact hsz
    have h8 : (ecells Y).length = 8 := rfl
    refine wpList_st 41 8 g (i * 8) 41 (ecells Y).toArray cur _ x y hgd ho hd hx hy (by kernel_rfl) rfl hg (by rw [hsz]; omega) (fun v hv => ?_) rfl fun w' hB hC => ?_
    · have h1 := evals_one [Y] v
      simp only [evals, List.append_nil] at h1
      exact h1 (by simpa using hv)
    · refine h w' ⟨by rw [evals_len, List.length_set], .inr ⟨g, cap, _, rfl, hb, hB, hnc, hcm, ?_, ?_⟩⟩ hC
      · simp only [List.size_toArray, List.length_append, List.length_take, List.length_drop, hcl, h8]
        omega
      · rw [evals_set xs i Y hi, ← htk, List.take_take, Nat.min_eq_left (by omega), List.drop_take, List.append_assoc, List.append_assoc]
        show List.take (xs.length * 8) (List.take (i * 8) cur.toList ++ (ecells Y ++ List.drop (i * 8 + 8) cur.toList)) = _
        rw [show xs.length * 8 = i * 8 + (8 + (xs.length * 8 - (i * 8 + 8))) by omega, take_cat _ _ (i * 8) _ (by rw [List.length_take, hcl]; omega), take_cat _ _ 8 _ h8, show i * 8 + (8 + (xs.length * 8 - (i * 8 + 8))) - (i * 8 + 8) = xs.length * 8 - (i * 8 + 8) by omega]

/-- Entries cloned: their bytes are the old ones still. -/
def RetCl (w : World) (xs : List El) (e : Ending) (w' : World) : Prop :=
  ∃ va vc, e = .returned (.slice va xs.length vc) ∧ w'.ownsRow w.heap.size 41 8 (.slice va xs.length vc) xs.length (evals xs) ∧ Below w.heap.size w w'

set_option maxRecDepth 100000 in
set_option maxHeartbeats 1000000 in
theorem cloneEnts_any (a : Option Addr) (cap l : Nat) (xs : List El) (w : World) (hl : xs.length = l) (hm : l ≤ 1000000) (h : ∀ j u, (evals xs)[j]? = some u → ∃ b off, a = some ⟨b, off, none⟩ ∧ w.cell? ⟨b, off + j, none⟩ = some u) :
    Calls Tryz.prog 64 #[.slice a l cap] w (RetCl w xs) := by
  have q22 : ∀ (w : World) (a : Option Addr) (n c n' c' : Nat), (binOp .eql 33 (.slice a n c) (.slice none n' c')).run Tryz.prog w = .ok (.bool a.isNone) w := fun w a n c n' c' => Lib.run_eql_slice_nil w _ _ a n c n' c' Tryz.underlying33
  have HL := Lib.hid hl
  have HS := Lib.hid h
  rcases a with _ | ad
  · have h0 : xs = [] := by
      cases xs with
      | nil => rfl
      | cons x xs => obtain ⟨b, off, e, _⟩ := h 0 (.int .i64 x.p.seq) rfl; cases e
    subst h0
    obtain rfl : l = 0 := by simpa using hl.symm
    clear hl h HL HS
    go_enter Tryz.func64, Tryz.ntmps64
    go_wp2
    go_ret
    exact ⟨none, 0, rfl, World.ownsRow_nil _ _ _ _, Below.refl _ _⟩
  · clear hl h
    have HC : Hid (∀ j u, (evals xs)[j]? = some u → ∃ b off, some ad = some ⟨b, off, none⟩ ∧ (w.alloc (.cells #[] 41)).cell? ⟨b, off + j, none⟩ = some u) := fun j u hj => by
      obtain ⟨b, off, e, hc⟩ := HS.out j u hj
      exact ⟨b, off, e, cell_later (below_one _ _) hc⟩
    go_enter Tryz.func64, Tryz.ntmps64
    go_wp2_with (at_builtin; refine wpList_appRaw rfl (.tmp 5) (.tmp 6) 33 41 rfl Tryz.underlying33 _ 8 88 infoE rfl (by omega) (by omega) w.heap.size (some ⟨w.heap.size, 0, none⟩) 0 0 [] rfl (row_lit w w.heap.size w.heap.size 41 8 rfl (Nat.le_refl _)) (some ad) l cap (evals xs) rfl (by rw [evals_len, HL.out]) HC.out (evals_one xs) (by omega) (by simp) ?_; intro va vc w2 ho hg)
    have HR : Hid (RetCl w xs (.returned (.slice va l vc)) w2) := by
      rw [List.nil_append, Nat.zero_add] at ho
      have hb2 : Below w.heap.size w w2 := (Chg.of_grown hg).below (below_one w _) (by simp) (by simp)
      exact ⟨va, vc, by rw [HL.out], by rw [HL.out]; exact ho, hb2⟩
    clear ho hg
    go_ret
    exact HR.out

end Go.Proofs.YtdgpbdedaafdiaaGreat

namespace Go.Proofs.YtdgpbdedaafdiaaGreat
open Go.RowKit






/-- Entries copied into new memory. -/
def RetCe (w : World) (es : List Pe) (e : Ending) (w' : World) : Prop :=
  ∃ a c, e = .returned (.slice a es.length c) ∧ RowE w' w.heap.size w'.heap.size a c es ∧ Below w.heap.size w w'

/-- The copying, k entries far: zs are the entries, xs the old ones. -/
structure Cpy (w ws : World) (va : Option Addr) (vc l k : Nat) (xs zs : List El) : Prop where
  own : ws.ownsRow w.heap.size 41 8 (.slice va l vc) l (evals zs)
  len : zs.length = l
  ps : zs.map (·.p) = xs.map (·.p)
  new : ∀ i, i < k → SeenAt ws (zs.getD i el0).loc (zs.getD i el0).cap (zs.getD i el0).p.frag ∧ ∀ b o, (zs.getD i el0).loc = some ⟨b, o, none⟩ → w.heap.size ≤ b ∧ b < ws.heap.size ∧ ∀ g ∈ blk va, b ≠ g
  old : ∀ i, k ≤ i → zs.getD i el0 = xs.getD i el0
  bel : Below w.heap.size w ws

theorem copied_at (e : Pe) (loc : Option Addr) (c n : Nat) (w : World) (hn : e.frag.length = n) (h : SeenAt w loc c e.frag) (hm : e.frag.length ≤ 1000000000) :
    Calls Tryz.prog 50 #[.agg #[.int .i64 e.seq, .int .i64 e.client, .int .i64 e.num, .int .i64 e.op, .string (strB e.key), .int .i64 e.size, .int .u32 (e.sum : Int), .slice loc n c]] w fun x w' =>
      ∃ loc' c', x = .returned (.agg #[.int .i64 e.seq, .int .i64 e.client, .int .i64 e.num, .int .i64 e.op, .string (strB e.key), .int .i64 e.size, .int .u32 (e.sum : Int), .slice loc' n c']) ∧ SeenAt w' loc' c' e.frag ∧ Fresh w w' loc' ∧ Below w.heap.size w w' := by
  subst hn
  exact copied_any e loc c w h hm

theorem getD_map_p (xs : List El) (i : Nat) (h : i < xs.length) : (xs.map (·.p)).getD i pe0 = (xs.getD i el0).p := by
  rw [List.getD_eq_getElem?_getD, List.getD_eq_getElem?_getD, List.getElem?_map, List.getElem?_eq_getElem h]; rfl

theorem map_p_set (zs : List El) (i : Nat) (y : El) (h : y.p = (zs.getD i el0).p) : (zs.set i y).map (·.p) = zs.map (·.p) := by
  rw [List.map_set, h]
  by_cases hi : i < zs.length
  · refine List.ext_getElem (by simp) fun j h1 h2 => ?_
    rw [List.getElem_set]
    split
    · rename_i e
      subst e
      rw [List.getD_eq_getElem?_getD, List.getElem?_eq_getElem hi, List.getElem_map]
      rfl
    · rfl
  · rw [List.set_eq_of_length_le (by simpa using hi)]

set_option maxRecDepth 100000 in
set_option maxHeartbeats 2000000 in
theorem copyEnts_any (a : Option Addr) (cap l : Nat) (es : List Pe) (w : World) (hl : es.length = l) (hm : l ≤ 1000000) (h : EnsAt w a cap es) (hf : ∀ e ∈ es, e.frag.length ≤ 1000000000) :
    Calls Tryz.prog 46 #[.slice a l cap] w (RetCe w es) := by
  obtain ⟨xs, hxs, hcell, hseen⟩ := ens_els h
  have HXL : Hid (xs.length = l) := by show _ = _; rw [← hl, ← hxs, List.length_map]
  have HC := Lib.hid hcell
  have HSN := Lib.hid hseen
  have HX := Lib.hid hxs
  have HL := Lib.hid hl
  have HW := Lib.hid h.wf
  have HF := Lib.hid hf
  clear hxs hcell hseen hl h hf
  go_enter Tryz.func46, Tryz.ntmps46
  go_wp2_with fail
  refine (cloneEnts_any a cap l xs _ HXL.out hm HC.out).mono ?_
  rintro e w1 ⟨va, vc, rfl, ho1, hb1⟩
  rw [HXL.out] at ho1 ⊢
  have HP1 : Hid (Cpy w w1 va vc l 0 xs xs) := ⟨ho1, HXL.out, rfl, fun i hi => by omega, fun _ _ => rfl, hb1⟩
  clear ho1 hb1
  go_wp2
  go_loopw [9] (fun i ws => ∃ (k : Nat) (zs : List El), k ≤ l ∧ i = .int .i64 k ∧ Hid (Cpy w ws va vc l k xs zs)) (fun i _ => l - (intOf i).toNat)
  case atStart => exact ⟨0, xs, Nat.zero_le _, rfl, HP1⟩
  case round =>
    obtain ⟨k, zs, hk, rfl, HP⟩ := hrel
    by_cases hlt : k < l
    · obtain ⟨g, rfl⟩ : ∃ g, va = some ⟨g, 0, none⟩ := by
        rcases HP.out.own.2 with ⟨e, h0⟩ | ⟨g, c, cur, e, _⟩
        · omega
        · injection e with e1; exact ⟨g, e1⟩
      have hcel : ∀ q u, (ecells (zs.getD k el0))[q]? = some u → wr.cell? ⟨g, k * 8 + q, none⟩ = some u := fun q u hq => by
        have hq8 : q < 8 := by
          rcases Nat.lt_or_ge q 8 with h | h
          · exact h
          · rw [List.getElem?_eq_none (by simpa [ecells] using h)] at hq; cases hq
        rw [World.ownsRow.cellAt HP.out.own (k * 8 + q) (by omega), evals_at zs k q (by rw [HP.out.len]; exact hlt) hq8]
        exact hq
      have HXK : Hid (zs.getD k el0 ∈ zs) := getD_mem zs k el0 (by rw [HP.out.len]; exact hlt)
      have HPK : Hid ((zs.getD k el0).p ∈ es) := by
        show _ ∈ _
        rw [← HX.out, ← HP.out.ps]
        exact List.mem_map_of_mem HXK.out
      have HSK : Hid (SeenAt wr (zs.getD k el0).loc (zs.getD k el0).cap (zs.getD k el0).p.frag) := by
        show SeenAt _ _ _ _
        rw [HP.out.old k (Nat.le_refl _)]
        exact (HSN.out _ (getD_mem xs k el0 (by rw [HXL.out]; exact hlt))).below HP.out.bel
      have HZK : Hid (zs.getD k el0 = zs.getD k el0) := rfl
      have HPE : Hid ((zs.getD k el0).p = (zs.getD k el0).p) := rfl
      generalize hz : zs.getD k el0 = z at hcel HSK HPK HZK HPE
      obtain ⟨p, loc, c⟩ := z
      have HZ : Hid (zs.getD k el0 = ⟨p, loc, c⟩) := hz
      have HPS : Hid (p ∈ es) := HPK.out
      have HS0 : Hid (SeenAt wr loc c p.frag) := HSK.out
      obtain ⟨n, hn⟩ : ∃ n, p.frag.length = n := ⟨_, rfl⟩
      have HN := Lib.hid hn
      have c0 : wr.cell? ⟨g, k * 8, none⟩ = some (.int .i64 p.seq) := hcel 0 (.int .i64 p.seq) rfl
      have c1 := hcel 1 (.int .i64 p.client) rfl
      have c2 := hcel 2 (.int .i64 p.num) rfl
      have c3 := hcel 3 (.int .i64 p.op) rfl
      have c4 := hcel 4 (.string (strB p.key)) rfl
      have c5 := hcel 5 (.int .i64 p.size) rfl
      have c6 := hcel 6 (.int .u32 (p.sum : Int)) rfl
      have c7 := hcel 7 (.slice loc n c) (by rw [← hn]; rfl)
      have j0 : (0 : Int) ≤ (k : Int) := by omega
      have j1 : (k : Int) < (l : Int) := by omega
      have hbl := below_one wr (.cells #[.int .i64 p.seq, .int .i64 p.client, .int .i64 p.num, .int .i64 p.op, .string (strB p.key), .int .i64 p.size, .int .u32 (p.sum : Int), .slice loc n c] 41)
      have HB2 := Lib.hid hbl
      clear hcel HSK HPK HZK HPE HXK hz hn hbl
      go_wp2_with fail
      refine (copied_at p loc c n _ HN.out (HS0.out.below HB2.out) (HF.out p HPS.out)).mono ?_
      rintro e w3 ⟨loc3, c3', rfl, hs3, hf3, hb3⟩
      have HE3 : Hid (Below wr.heap.size wr w3) := HB2.out.trans (hb3.mono HB2.out.size)
      have HS3 := Lib.hid hs3
      have HF3 : Hid (∀ b o, loc3 = some ⟨b, o, none⟩ → wr.heap.size ≤ b ∧ b < w3.heap.size) := fun b o e => by
        rcases hf3 with h | ⟨b', o', h, h2, h3⟩
        · rw [h] at e; cases e
        · rw [h] at e; cases e
          have := HB2.out.size
          omega
      have HO3 := Lib.hid ((Chg.of_below (gs := []) HE3.out).owns HP.out.own (by simp))
      clear hs3 hf3 hb3 c0 c1 c2 c3 c4 c5 c6 c7
      go_wp2_with (refine wpList_stE rfl (.tmp 18) (.tmp 17) rfl rfl w.heap.size g l vc k zs ⟨p, loc3, c3'⟩ HP.out.len HO3.out hlt rfl (by simp only [ecells, HN.out]; rfl) ?_; intro w4 ho4 hc4)
      have HP4 : Hid (Cpy w w4 (some ⟨g, 0, none⟩) vc l (k + 1) xs (zs.set k ⟨p, loc3, c3'⟩)) := by
        have hg := World.ownsRow.lt HP.out.own g rfl
        refine ⟨ho4, by rw [List.length_set]; exact HP.out.len, ?_, fun i hi => ?_, fun i hi => ?_, ?_⟩
        · rw [map_p_set zs k _ (by rw [HZ.out]), HP.out.ps]
        · by_cases e : i = k
          · subst e
            rw [getD_set_eq _ _ _ _ (by rw [HP.out.len]; exact hlt)]
            refine ⟨HS3.out.chg hc4 fun b o e hm => ?_, fun b o e => ?_⟩
            · have := HF3.out b o e
              simp at hm
              omega
            · have h1 := HF3.out b o e
              have h2 := hc4.size
              have h3 := HP.out.bel.size
              refine ⟨by omega, by omega, fun q hq => ?_⟩
              simp [blk] at hq
              omega
          · rw [getD_set_ne _ _ _ _ _ e]
            obtain ⟨k1, k2⟩ := HP.out.new i (by omega)
            refine ⟨(k1.below HE3.out).chg hc4 fun b o e hm => ?_, fun b o e => ?_⟩
            · simp at hm
              exact (k2 b o e).2.2 g (by simp [blk]) hm
            · obtain ⟨m1, m2, m3⟩ := k2 b o e
              have := HE3.out.size
              have := hc4.size
              exact ⟨m1, by omega, m3⟩
        · rw [getD_set_ne _ _ _ _ _ (by omega)]
          exact HP.out.old i (by omega)
        · exact hc4.below (HP.out.bel.trans (HE3.out.mono HP.out.bel.size)) (Nat.le_trans HP.out.bel.size HE3.out.size) (by simp; exact hg.1)
      clear ho4 hc4
      go_wp2
      go_roundw
      case rel => exact ⟨k + 1, _, by omega, by go_num, HP4⟩
      case measure => simp [intOf]; omega
    · obtain rfl : k = l := by omega
      have HR : Hid (RetCe w es (.returned (.slice va k vc)) wr) := by
        have hps : zs.map (·.p) = es := by rw [HP.out.ps, HX.out]
        refine ⟨va, vc, by rw [HL.out], ⟨zs, hps, ⟨?_, fun x hx => ?_, fun x hx b o e => ?_, fun x hx => HW.out _ (by rw [← hps]; exact List.mem_map_of_mem hx)⟩, fun x hx b o e => ?_, fun g e => ?_⟩, HP.out.bel⟩
        · rw [HP.out.len]; exact HP.out.own
        · obtain ⟨i, hi, rfl⟩ := List.mem_iff_getElem.mp hx
          have := (HP.out.new i (by rw [← HP.out.len]; exact hi)).1
          rwa [List.getD_eq_getElem?_getD, List.getElem?_eq_getElem hi] at this
        · obtain ⟨i, hi, rfl⟩ := List.mem_iff_getElem.mp hx
          have := (HP.out.new i (by rw [← HP.out.len]; exact hi)).2 b o
          rw [List.getD_eq_getElem?_getD, List.getElem?_eq_getElem hi] at this
          obtain ⟨h1, h2, h3⟩ := this e
          exact ⟨h1, h2, fun g hg => h3 g (own_blk hg)⟩
        · obtain ⟨i, hi, rfl⟩ := List.mem_iff_getElem.mp hx
          have := (HP.out.new i (by rw [← HP.out.len]; exact hi)).2 b o
          rw [List.getD_eq_getElem?_getD, List.getElem?_eq_getElem hi] at this
          exact (this e).2.1
        · rw [HP.out.len] at e
          exact (World.ownsRow.lt HP.out.own g e).2
      go_wp2
      go_ret
      exact HR.out

end Go.Proofs.YtdgpbdedaafdiaaGreat

namespace Go.Proofs.YtdgpbdedaafdiaaGreat
open Go.RowKit






/-- The store at v, or an empty one in place of none. -/
structure SomeV (v : Value) (w : World) (bp : Value) (s : Ss) (L : Lay) : Prop where
  call : ∀ w1, Below w.heap.size w w1 → Calls Tryz.prog 45 #[v] w1 fun e w2 => (∃ SB, e = .returned (.pointer (some ⟨SB, 0, none⟩)) ∧ Bx w2 SB 60 (L.cellsB bp s)) ∧ Below w1.heap.size w1 w2
  mem : IntsAt w L.ma L.mc s.now.mem
  ents : EnsAt w L.na L.nc s.now.ents

theorem SomeV.below {v : Value} {w w' : World} {bp : Value} {s : Ss} {L : Lay} (h : SomeV v w bp s L) (hb : Below w.heap.size w w') : SomeV v w' bp s L :=
  ⟨fun w1 h1 => h.call w1 (hb.trans (h1.mono hb.size)), h.mem.below hb, h.ents.below hb⟩

theorem stSome_any (SB : Nat) (w : World) : Calls Tryz.prog 45 #[.pointer (some ⟨SB, 0, none⟩)] w fun e w' => e = .returned (.pointer (some ⟨SB, 0, none⟩)) ∧ w = w' := by
  go_enter Tryz.func45, Tryz.ntmps45
  go_wp2
  go_ret
  exact ⟨rfl, rfl⟩

def lay0 : Lay := ⟨0, none, none, [], none, 0, none, 0, none, 0, none, 0⟩

set_option maxRecDepth 100000 in
theorem stSome_nil (w : World) : Calls Tryz.prog 45 #[.pointer none] w fun e w2 => (∃ SB, e = .returned (.pointer (some ⟨SB, 0, none⟩)) ∧ Bx w2 SB 60 (lay0.cellsB (.pointer none) ss0)) ∧ Below w.heap.size w w2 := by
  have HX : Hid (Bx (w.alloc (.cells (lay0.cellsB (.pointer none) ss0) 60)) w.heap.size 60 (lay0.cellsB (.pointer none) ss0)) := bx_new8 _ _ _
  go_enter Tryz.func45, Tryz.ntmps45
  go_wp2
  go_ret
  exact ⟨⟨w.heap.size, rfl, HX.out⟩, below_one _ _⟩

theorem SoX.someV {w : World} {base SB R : Nat} {d : DS} {cs : List (List Nat)} {s : Ss} {L : Lay} (h : SoX w base SB R d cs s L) : SomeV (.pointer (some ⟨SB, 0, none⟩)) w (.pointer (some ⟨L.RB, 0, none⟩)) s L :=
  ⟨fun w1 hb => (stSome_any SB w1).mono fun _ _ ⟨h1, h2⟩ => by subst h2; exact ⟨⟨SB, h1, h.box.chg (gs := []) (Chg.of_below hb) (by simp)⟩, Below.refl _ _⟩, h.mem.now, h.own.ens⟩

theorem someV_nil (w : World) : SomeV (.pointer none) w (.pointer none) ss0 lay0 := ⟨fun w1 _ => stSome_nil w1, IntsAt.nil (Nat.zero_le _), EnsAt.nil (Nat.zero_le _)⟩


section
variable {v : Value} {bp : Value} {s : Ss} {L : Lay}

set_option maxRecDepth 100000 in
theorem stPos_any (w : World) (h : SomeV v w bp s L) : Calls Tryz.prog 28 #[v] w fun e w' => e = .returned (.int .i64 s.now.pos) ∧ Below w.heap.size w w' := by
  go_enter Tryz.func28, Tryz.ntmps28
  go_wp2_with fail
  refine (h.call _ (Below.refl _ _)).mono ?_
  rintro e w1 ⟨⟨SB, rfl, hx⟩, hb⟩
  have HB := Lib.hid hb
  have c := hx.cell 4 (.int .i64 s.now.pos) rfl
  clear hx hb
  go_wp2
  go_ret
  exact ⟨rfl, HB.out⟩

set_option maxRecDepth 100000 in
theorem stBase_any (w : World) (h : SomeV v w bp s L) : Calls Tryz.prog 29 #[v] w fun e w' => e = .returned (.int .i64 s.now.last) ∧ Below w.heap.size w w' := by
  go_enter Tryz.func29, Tryz.ntmps29
  go_wp2_with fail
  refine (h.call _ (Below.refl _ _)).mono ?_
  rintro e w1 ⟨⟨SB, rfl, hx⟩, hb⟩
  have HB := Lib.hid hb
  have c := hx.cell 5 (.int .i64 s.now.last) rfl
  clear hx hb
  go_wp2
  go_ret
  exact ⟨rfl, HB.out⟩

set_option maxRecDepth 100000 in
theorem stSealed_any (w : World) (h : SomeV v w bp s L) : Calls Tryz.prog 32 #[v] w fun e w' => e = .returned (.bool s.sealed) ∧ Below w.heap.size w w' := by
  go_enter Tryz.func32, Tryz.ntmps32
  go_wp2_with fail
  refine (h.call _ (Below.refl _ _)).mono ?_
  rintro e w1 ⟨⟨SB, rfl, hx⟩, hb⟩
  have HB := Lib.hid hb
  have c := hx.cell 7 (.bool s.sealed) rfl
  clear hx hb
  go_wp2
  go_ret
  exact ⟨rfl, HB.out⟩

set_option maxRecDepth 100000 in
theorem stStaged_any (w : World) (h : SomeV v w bp s L) : Calls Tryz.prog 33 #[v] w fun e w' => e = .returned (.int .i64 s.staged.epoch) ∧ Below w.heap.size w w' := by
  go_enter Tryz.func33, Tryz.ntmps33
  go_wp2_with fail
  refine (h.call _ (Below.refl _ _)).mono ?_
  rintro e w1 ⟨⟨SB, rfl, hx⟩, hb⟩
  have HB := Lib.hid hb
  have c := hx.cell 9 (.int .i64 s.staged.epoch) rfl
  clear hx hb
  go_wp2
  go_ret
  exact ⟨rfl, HB.out⟩

set_option maxRecDepth 100000 in
theorem stLast_any (w : World) (h : SomeV v w bp s L) (hm : s.now.ents.length ≤ 1000000) : Calls Tryz.prog 34 #[v] w fun e w' => e = .returned (.int .i64 (lastS s)) ∧ Below w.heap.size w w' := by
  obtain ⟨n, hn⟩ : ∃ n, s.now.ents.length = n := ⟨_, rfl⟩
  have HN := Lib.hid hn
  rw [hn] at hm
  go_enter Tryz.func34, Tryz.ntmps34
  go_wp2_with fail
  refine (stBase_any _ h).mono ?_
  rintro e w1 ⟨rfl, hb1⟩
  have HB1 := Lib.hid hb1
  clear hb1
  go_wp2_with fail
  refine (h.call _ HB1.out).mono ?_
  rintro e w2 ⟨⟨SB, rfl, hx⟩, hb2⟩
  have HB2 := Lib.hid (HB1.out.trans (hb2.mono HB1.out.size))
  have c := hx.cell 6 (.slice L.na n L.nc) (by rw [← hn]; rfl)
  have HE := Lib.hid (h.ents.below HB2.out)
  clear hx hb2 hn
  by_cases h0 : n = 0
  · subst h0
    have HZ : Hid (lastS s = s.now.last) := lastS_none (List.length_eq_zero_iff.mp HN.out)
    go_wp2
    go_ret
    exact ⟨by rw [HZ.out]; rfl, HB2.out⟩
  · have HZ : Hid (lastS s = if s.now.last < (s.now.ents.getD (n - 1) pe0).seq then (s.now.ents.getD (n - 1) pe0).seq else s.now.last) := by
      have := lastS_some (s := s) (fun e => h0 (by rw [← HN.out, e]; rfl))
      rw [HN.out] at this
      exact this
    obtain ⟨m, rfl⟩ : ∃ m, n = m + 1 := ⟨n - 1, by omega⟩
    rw [Nat.add_sub_cancel] at HZ
    obtain ⟨b, off, loc, c2, e, hc⟩ := HE.out.el m (by rw [HN.out]; omega)
    have c0 := hc.c0
    generalize (s.now.ents.getD m pe0).seq = q at *
    rw [e] at c
    have p1 : decide (((m + 1 : Nat) : Int) > 0) = true := decide_eq_true (by omega)
    have p2 : (((m + 1 : Nat) : Int) - 1) = (m : Int) := by omega
    have p3 : (0 : Int) ≤ (m : Int) := by omega
    have p4 : (m : Int) < ((m + 1 : Nat) : Int) := by omega
    clear hc HE h
    go_wp2
    all_goals go_ret
    · exact ⟨by rw [HZ.out, if_pos h]; rfl, HB2.out⟩
    · exact ⟨by rw [HZ.out, if_neg (by omega)]; rfl, HB2.out⟩

set_option maxRecDepth 100000 in
theorem stConf_any (w : World) (h : SomeV v w bp s L) (hm : s.now.mem.length ≤ 1000000) : Calls Tryz.prog 27 #[v] w fun e w' =>
    ∃ a c, e = .returned (.agg #[.int .i64 s.now.epoch, .slice a s.now.mem.length c]) ∧ Rob w.heap.size w'.heap.size w' (fun x => IntsAt x a c s.now.mem) ∧ Below w.heap.size w w' := by
  obtain ⟨n, hn⟩ : ∃ n, s.now.mem.length = n := ⟨_, rfl⟩
  have HN := Lib.hid hn
  rw [hn] at hm ⊢
  have HZ0 : Hid (Bx (w.alloc (.cells #[.int .i64 0, .slice none 0 0] 32)) w.heap.size 32 #[.int .i64 0, .slice none 0 0]) := bx_new8 _ _ _
  have HE0 := Lib.hid (below_one w (.cells #[.int .i64 0, .slice none 0 0] 32))
  have HQ : Hid ((w.alloc (.cells #[.int .i64 0, .slice none 0 0] 32)).heap.size = w.heap.size + 1) := by show _ = _; simp
  go_enter Tryz.func27, Tryz.ntmps27
  go_wp2_with fail
  generalize (w.alloc (.cells #[.int .i64 0, .slice none 0 0] 32)) = w0 at *
  refine (h.call _ HE0.out).mono ?_
  rintro e w1 ⟨⟨SB, rfl, hx⟩, hb1⟩
  have HB1 := Lib.hid (HE0.out.trans (hb1.mono HE0.out.size))
  have HZ1 := Lib.hid (HZ0.out.chg (gs := []) (Chg.of_below hb1) (by simp))
  have HQ1 := hb1.size
  have c2 := hx.cell 2 (.int .i64 s.now.epoch) rfl
  have c3 := hx.cell 3 (.slice L.ma n L.mc) (by rw [← hn]; rfl)
  have HM := Lib.hid (h.mem.below HB1.out)
  clear hx hb1 hn HZ0
  go_wp2_with fail
  refine (copyConf_any s.now.epoch L.ma L.mc n s.now.mem _ HN.out hm HM.out).mono ?_
  rintro e w2 ⟨a2, k2, rfl, hr2, hb2⟩
  have HB2 := Lib.hid (HB1.out.trans (hb2.mono HB1.out.size))
  have HZ2 := Lib.hid (HZ1.out.chg (gs := []) (Chg.of_below hb2) (by simp))
  have HR2 := Lib.hid hr2
  have HQ2 := hb2.size
  have y0 := HZ2.out.cell 0 (.int .i64 0) rfl
  have y1 := HZ2.out.cell 1 (.slice none 0 0) rfl
  have g0 := HZ2.out.free 0
  have g1 := HZ2.out.free 1
  clear hr2 hb2 c2 c3 h
  go_wp2_with fail
  have HC : Hid (Chg [w.heap.size] w2 ((w2.setCell ⟨w.heap.size, 0, none⟩ (.int .i64 s.now.epoch)).setCell ⟨w.heap.size, 1, none⟩ (.slice a2 n k2))) := (chg_set1 w2 w.heap.size 0 _).trans (chg_set1 _ w.heap.size 1 _)
  have HFX := Lib.hid ((HZ2.out.set (C' := #[.int .i64 s.now.epoch, .slice none 0 0]) 0 (.int .i64 s.now.epoch) (by simp)).set (C' := #[.int .i64 s.now.epoch, .slice a2 n k2]) 1 (.slice a2 n k2) (by simp))
  have HSZ : Hid (w2.heap.size = ((w2.setCell ⟨w.heap.size, 0, none⟩ (.int .i64 s.now.epoch)).setCell ⟨w.heap.size, 1, none⟩ (.slice a2 n k2)).heap.size) := by show _ = _; simp
  generalize ((w2.setCell ⟨w.heap.size, 0, none⟩ (.int .i64 s.now.epoch)).setCell ⟨w.heap.size, 1, none⟩ (.slice a2 n k2)) = wf at *
  have q0 := HFX.out.cell 0 (.int .i64 s.now.epoch) rfl
  have q1 := HFX.out.cell 1 (.slice a2 n k2) rfl
  have hq := HQ.out
  refine bodyPost_ret (v := .agg #[.int .i64 s.now.epoch, .slice a2 n k2]) (by simp [results, Tryz.results27, go_sem, q0, q1]) rfl ?_
  exact ⟨a2, k2, rfl, (HR2.out.chg HC.out (fun g hg => by simp at hg; omega)).wide (by omega) (Nat.le_of_eq HSZ.out), HC.out.below HB2.out HB2.out.size (by simp)⟩

set_option maxRecDepth 100000 in
theorem stEntries_any (w : World) (h : SomeV v w bp s L) (hm : s.now.ents.length ≤ 1000000) (hf : ∀ e ∈ s.now.ents, e.frag.length ≤ 1000000000) : Calls Tryz.prog 30 #[v] w (RetCe w s.now.ents) := by
  obtain ⟨n, hn⟩ : ∃ n, s.now.ents.length = n := ⟨_, rfl⟩
  have HN := Lib.hid hn
  have HF := Lib.hid hf
  rw [hn] at hm
  clear hf
  go_enter Tryz.func30, Tryz.ntmps30
  go_wp2_with fail
  refine (h.call _ (Below.refl _ _)).mono ?_
  rintro e w1 ⟨⟨SB, rfl, hx⟩, hb1⟩
  have HB1 := Lib.hid hb1
  have c6 := hx.cell 6 (.slice L.na n L.nc) (by rw [← hn]; rfl)
  have HE := Lib.hid (h.ents.below HB1.out)
  clear hx hb1 hn
  go_wp2_with fail
  refine (copyEnts_any L.na L.nc n s.now.ents _ HN.out hm HE.out HF.out).mono ?_
  rintro e w2 ⟨a2, k2, rfl, hr2, hb2⟩
  rw [HN.out]
  have HR : Hid (RetCe w s.now.ents (.returned (.slice a2 n k2)) w2) := by
    obtain ⟨zs, k1, k3, k4, k5⟩ := hr2
    have hsz := HB1.out.size
    exact ⟨a2, k2, by rw [HN.out], ⟨zs, k1, ⟨owns_base k3.own hsz, k3.seen, fun x hx b o e => ⟨Nat.le_trans hsz (k3.off x hx b o e).1, (k3.off x hx b o e).2⟩, k3.wf⟩, k4, k5⟩, HB1.out.trans (hb2.mono HB1.out.size)⟩
  clear hr2 hb2
  go_wp2
  go_ret
  exact HR.out

end

end Go.Proofs.YtdgpbdedaafdiaaGreat
