/-
  Copies of members and of entries, and what a store tells of itself.
-/
import Derived.Test.YtdgpbdedaafdiaaStN
import Derived.Test.YtdgpbdedaafdiaaWalksK1
import Derived.Deep.DeepCutAuto
namespace Go.Proofs.Ytdgpbdedaafdiaa
open Go.RowKit






theorem ints_none {w : World} {c l : Nat} {zs : List Int} (h : IntsAt w none c zs) (hl : zs.length = l) : zs = [] ∧ l = 0 := by
  cases zs with
  | nil => exact ⟨rfl, hl.symm⟩
  | cons z zs => obtain ⟨b, o, e, _⟩ := h.cell 0 (by simp); cases e

theorem ens_none {w : World} {c l : Nat} {es : List Pe} (h : EnsAt w none c es) (hl : es.length = l) : es = [] ∧ l = 0 := by
  cases es with
  | nil => exact ⟨rfl, hl.symm⟩
  | cons z zs => obtain ⟨b, o, loc, c, e, _⟩ := h.el 0 (by simp); cases e

theorem ivals_at (zs : List Int) (i : Nat) (h : i < zs.length) : (ivals zs)[i]? = some (.int .i64 (zs.getD i 0)) := by
  simp [ivals, h]

/-- Members copied into new memory. -/
def RetCi (w : World) (zs : List Int) (e : Ending) (w' : World) : Prop :=
  ∃ a c, e = .returned (.slice a zs.length c) ∧ Rob w.heap.size w'.heap.size w' (fun x => IntsAt x a c zs) ∧ Below w.heap.size w w'

set_option maxRecDepth 100000 in
set_option maxHeartbeats 1000000 in
theorem cloneInts_any (a : Option Addr) (cap l : Nat) (zs : List Int) (w : World) (hl : zs.length = l) (hm : l ≤ 1000000) (h : IntsAt w a cap zs) :
    Calls Try.prog 41 #[.slice a l cap] w (RetCi w zs) := by
  have q22 : ∀ (w : World) (a : Option Addr) (n c n' c' : Nat), (binOp .eql 33 (.slice a n c) (.slice none n' c')).run Try.prog w = .ok (.bool a.isNone) w := fun w a n c n' c' => Lib.run_eql_slice_nil w _ _ a n c n' c' Try.underlying33
  have HL := Lib.hid hl
  have HS := Lib.hid h
  rcases a with _ | ad
  · obtain ⟨rfl, rfl⟩ := ints_none h hl
    clear hl h HL
    go_enter Try.func41, Try.ntmps41
    go_wp2
    go_ret
    exact ⟨none, 0, rfl, fun _ _ _ _ => IntsAt.nil (Nat.zero_le _), Below.refl _ _⟩
  · clear hl h
    have HC : Hid (∀ j u, (ivals zs)[j]? = some u → ∃ b off, some ad = some ⟨b, off, none⟩ ∧ (w.alloc (.cells #[] 3)).cell? ⟨b, off + j, none⟩ = some u) := fun j u hj => by
      have hlt : j < zs.length := by
        rcases Nat.lt_or_ge j zs.length with h | h
        · exact h
        · rw [List.getElem?_eq_none (by rw [ivals_len]; exact h)] at hj; cases hj
      obtain ⟨b, off, e, hc⟩ := HS.out.cell j hlt
      rw [ivals_at zs j hlt] at hj
      exact ⟨b, off, e, by rw [← hj]; exact cell_later (below_one _ _) hc⟩
    have HW : Hid (∀ z ∈ zs, I64 z) := fun z hz => by
      obtain ⟨i, hi, rfl⟩ := List.mem_iff_getElem.mp hz
      have := HS.out.wf i
      rwa [List.getD_eq_getElem?_getD, List.getElem?_eq_getElem hi] at this
    have HI1 : Hid (∀ u ∈ ivals zs, u.oneCell' = true) := fun u hu => by
      obtain ⟨z, _, rfl⟩ := List.mem_map.mp hu
      rfl
    go_enter Try.func41, Try.ntmps41
    go_wp2_with (at_builtin; refine wpList_appRaw rfl (.tmp 5) (.tmp 6) 33 3 rfl Try.underlying33 (.int .i64 0) 1 8 infoI rfl (by omega) (by omega) w.heap.size (some ⟨w.heap.size, 0, none⟩) 0 0 [] rfl (row_lit w w.heap.size w.heap.size 3 1 rfl (Nat.le_refl _)) (some ad) l cap (ivals zs) rfl (by rw [ivals_len, HL.out]; omega) HC.out HI1.out (by omega) (by simp) ?_; intro va vc w2 ho hg)
    have HR : Hid (RetCi w zs (.returned (.slice va l vc)) w2) := by
      rw [List.nil_append, Nat.zero_add] at ho
      have hk := ints_own ho HL.out HW.out
      have hb2 : Below w.heap.size w w2 := (Chg.of_grown hg).below (below_one w _) (by simp) (by simp)
      refine ⟨va, vc, by rw [HL.out], fun gs x hc hgs => hk.1.chg hc fun b o e hm => ?_, hb2⟩
      have h1 := hgs b hm
      have h2 := hk.2 b o e
      have h3 := World.ownsRow.lt ho b (by rw [e]; rfl)
      omega
    clear ho hg
    go_ret
    exact HR.out

set_option maxRecDepth 100000 in
set_option maxHeartbeats 1000000 in
/-- A configuration copied. -/
theorem copyConf_any (n : Int) (a : Option Addr) (cap l : Nat) (zs : List Int) (w : World) (hl : zs.length = l) (hm : l ≤ 1000000) (h : IntsAt w a cap zs) :
    Calls Try.prog 28 #[.agg #[.int .i64 n, .slice a l cap]] w fun e w' => ∃ a' c', e = .returned (.agg #[.int .i64 n, .slice a' l c']) ∧ Rob w.heap.size w'.heap.size w' (fun x => IntsAt x a' c' zs) ∧ Below w.heap.size w w' := by
  have HL := Lib.hid hl
  have HA0 : Hid (Bx (w.alloc (.cells #[.int .i64 n, .slice a l cap] 35)) w.heap.size 35 #[.int .i64 n, .slice a l cap]) := bx_new8 _ _ _
  have HZ0 : Hid (Bx ((w.alloc (.cells #[.int .i64 n, .slice a l cap] 35)).alloc (.cells #[.int .i64 0, .slice none 0 0] 35)) (w.heap.size + 1) 35 #[.int .i64 0, .slice none 0 0]) := by
    have := bx_new8 (w.alloc (.cells #[.int .i64 n, .slice a l cap] 35)) #[.int .i64 0, .slice none 0 0] 35
    rw [World.size_alloc] at this
    exact this
  have HA1 := Lib.hid (HA0.out.chg (gs := []) (Chg.of_below (below_one _ (.cells #[.int .i64 0, .slice none 0 0] 35))) (by simp))
  have HE0 := Lib.hid ((below_one w (.cells #[.int .i64 n, .slice a l cap] 35)).alloc (by simp) (.cells #[.int .i64 0, .slice none 0 0] 35))
  have HI := Lib.hid (h.below HE0.out)
  have HQ : Hid (((w.alloc (.cells #[.int .i64 n, .slice a l cap] 35)).alloc (.cells #[.int .i64 0, .slice none 0 0] 35)).heap.size = w.heap.size + 2) := by show _ = _; simp
  clear hl h HA0
  go_enter Try.func28, Try.ntmps28
  go_wp2_with fail
  generalize ((w.alloc (.cells #[.int .i64 n, .slice a l cap] 35)).alloc (.cells #[.int .i64 0, .slice none 0 0] 35)) = w1 at *
  refine (cloneInts_any a cap l zs w1 HL.out hm HI.out).mono ?_
  rintro e w2 ⟨a2, c2, rfl, hr2, hb2⟩
  rw [HL.out]
  have HA2 := Lib.hid (HA1.out.chg (gs := []) (Chg.of_below hb2) (by simp))
  have HZ2 := Lib.hid (HZ0.out.chg (gs := []) (Chg.of_below hb2) (by simp))
  have HE2 := Lib.hid (HE0.out.trans (hb2.mono HE0.out.size))
  have HR2 := Lib.hid hr2
  have HQ2 := hb2.size
  have hq1 := HQ.out
  clear hr2 hb2 HA1 HZ0 HE0 HI
  have k0 := HA2.out.cell 0 (.int .i64 n) rfl
  have k1 := HA2.out.cell 1 (.slice a l cap) rfl
  have f1 := HA2.out.free 1
  have y0 := HZ2.out.cell 0 (.int .i64 0) rfl
  have y1 := HZ2.out.cell 1 (.slice none 0 0) rfl
  have g0 := HZ2.out.free 0
  have g1 := HZ2.out.free 1
  go_wp2_with fail
  have HC : Hid (Chg [w.heap.size, w.heap.size + 1] w2 (((w2.setCell ⟨w.heap.size, 1, none⟩ (.slice a2 l c2)).setCell ⟨w.heap.size + 1, 0, none⟩ (.int .i64 n)).setCell ⟨w.heap.size + 1, 1, none⟩ (.slice a2 l c2))) :=
    (((chg_set1 w2 w.heap.size 1 _).mono (by simp)).trans ((chg_set1 _ (w.heap.size + 1) 0 _).mono (by simp))).trans ((chg_set1 _ (w.heap.size + 1) 1 _).mono (by simp))
  have HFX := Lib.hid (((HZ2.out.chg (chg_set1 w2 w.heap.size 1 (.slice a2 l c2)) (by simp)).set (C' := #[.int .i64 n, .slice none 0 0]) 0 (.int .i64 n) (by simp)).set (C' := #[.int .i64 n, .slice a2 l c2]) 1 (.slice a2 l c2) (by simp))
  have HSZ : Hid (w2.heap.size = (((w2.setCell ⟨w.heap.size, 1, none⟩ (.slice a2 l c2)).setCell ⟨w.heap.size + 1, 0, none⟩ (.int .i64 n)).setCell ⟨w.heap.size + 1, 1, none⟩ (.slice a2 l c2)).heap.size) := by show _ = _; simp
  generalize (((w2.setCell ⟨w.heap.size, 1, none⟩ (.slice a2 l c2)).setCell ⟨w.heap.size + 1, 0, none⟩ (.int .i64 n)).setCell ⟨w.heap.size + 1, 1, none⟩ (.slice a2 l c2)) = wf at *
  have q0 := HFX.out.cell 0 (.int .i64 n) rfl
  have q1 := HFX.out.cell 1 (.slice a2 l c2) rfl
  refine bodyPost_ret (v := .agg #[.int .i64 n, .slice a2 l c2]) (by simp [results, Try.results28, go_sem, q0, q1]) rfl ?_
  refine ⟨a2, c2, rfl, (HR2.out.chg HC.out (fun g hg => by simp at hg; omega)).wide (by omega) (Nat.le_of_eq HSZ.out), HC.out.below HE2.out HE2.out.size (by simp)⟩

/-! ## Entries -/

theorem ens_els {w : World} {a : Option Addr} {c : Nat} {es : List Pe} (h : EnsAt w a c es) :
    ∃ xs : List El, xs.map (·.p) = es ∧ (∀ j u, (evals xs)[j]? = some u → ∃ b off, a = some ⟨b, off, none⟩ ∧ w.cell? ⟨b, off + j, none⟩ = some u) ∧ ∀ x ∈ xs, SeenAt w x.loc x.cap x.p.frag := by
  have hq : ∀ i : Nat, ∃ q : Option Addr × Nat, i < es.length → ∃ b off, a = some ⟨b, off, none⟩ ∧ EnCells w b (off + i * 8) (es.getD i pe0) q.1 q.2 := fun i => by
    by_cases hi : i < es.length
    · obtain ⟨b, off, loc, c, e, hc⟩ := h.el i hi
      exact ⟨(loc, c), fun _ => ⟨b, off, e, hc⟩⟩
    · exact ⟨(none, 0), fun h => absurd h hi⟩
  obtain ⟨f, hf⟩ := Classical.axiomOfChoice hq
  let F : Nat → El := fun i => ⟨es.getD i pe0, (f i).1, (f i).2⟩
  have hlen : ((List.range es.length).map F).length = es.length := by simp
  have hget : ∀ i, i < es.length → ((List.range es.length).map F).getD i el0 = F i := fun i hi => by
    rw [List.getD_eq_getElem?_getD, List.getElem?_map, List.getElem?_range hi]; rfl
  refine ⟨(List.range es.length).map F, ?_, fun j u hj => ?_, fun x hx => ?_⟩
  · refine List.ext_getElem (by simp) fun i h1 h2 => ?_
    have h3 : i < es.length := h2
    rw [List.getElem_map, List.getElem_map, List.getElem_range]
    show es.getD i pe0 = _
    rw [List.getD_eq_getElem?_getD, List.getElem?_eq_getElem h3]
    rfl
  · have hlt : j < es.length * 8 := by
      rcases Nat.lt_or_ge j (es.length * 8) with h | h
      · exact h
      · rw [List.getElem?_eq_none (by rw [evals_len, hlen]; exact h)] at hj; cases hj
    have h1 : j / 8 < es.length := by omega
    rw [show j = j / 8 * 8 + j % 8 by omega, evals_at _ (j / 8) (j % 8) (by rw [hlen]; exact h1) (by omega), hget _ h1] at hj
    obtain ⟨b, off, e, hc⟩ := hf (j / 8) h1
    refine ⟨b, off, e, ?_⟩
    rw [show off + j = off + j / 8 * 8 + j % 8 by omega]
    have h8 : j % 8 = 0 ∨ j % 8 = 1 ∨ j % 8 = 2 ∨ j % 8 = 3 ∨ j % 8 = 4 ∨ j % 8 = 5 ∨ j % 8 = 6 ∨ j % 8 = 7 := by omega
    rcases h8 with h8 | h8 | h8 | h8 | h8 | h8 | h8 | h8 <;> rw [h8] at hj ⊢ <;> rw [← hj]
    · exact hc.c0
    · exact hc.c1
    · exact hc.c2
    · exact hc.c3
    · exact hc.c4
    · exact hc.c5
    · exact hc.c6
    · exact hc.c7
  · obtain ⟨i, hi, rfl⟩ := List.mem_map.mp hx
    obtain ⟨b, off, e, hc⟩ := hf i (List.mem_range.mp hi)
    exact hc.seen

theorem take_cat {α : Type} (A B : List α) (p q : Nat) (h : A.length = p) : (A ++ B).take (p + q) = A ++ B.take q := by
  subst h
  exact List.take_length_add_append q
theorem drop_cat {α : Type} (A B : List α) (p q : Nat) (h : A.length = p) : (A ++ B).drop (p + q) = B.drop q := by
  subst h
  exact List.drop_length_add_append q

theorem evals_set (xs : List El) (i : Nat) (y : El) (h : i < xs.length) : evals (xs.set i y) = (evals xs).take (i * 8) ++ ecells y ++ (evals xs).drop (i * 8 + 8) := by
  induction xs generalizing i with
  | nil => simp at h
  | cons x xs ih =>
    have h8 : (ecells x).length = 8 := rfl
    cases i with
    | zero =>
      show ecells y ++ evals xs = ((ecells x ++ evals xs).take (0 * 8) ++ ecells y ++ (ecells x ++ evals xs).drop (0 * 8 + 8))
      rw [Nat.zero_mul, List.take_zero, List.nil_append, Nat.zero_add, List.drop_append, h8, List.drop_eq_nil_of_le (by rw [h8]; exact Nat.le_refl _)]
      simp
    | succ i =>
      show ecells x ++ evals (xs.set i y) = ((ecells x ++ evals xs).take ((i + 1) * 8) ++ ecells y ++ (ecells x ++ evals xs).drop ((i + 1) * 8 + 8))
      rw [ih i (by simpa using h), show (i + 1) * 8 = 8 + i * 8 by omega, show 8 + i * 8 + 8 = 8 + (i * 8 + 8) by omega, take_cat _ _ 8 _ h8, drop_cat _ _ 8 _ h8]
      simp

/-- An entry is stored into a row of one's own. -/
theorem wpList_stE {ops : Array Oper} {rest : List Oper} {o : Oper} {a : Act} {Q : Exit → Act → World → Prop} {w : World} (hgd : o.guard = none) (x y : Operand) (ho : o.op = .store 32 x y) (hd : o.dst = none)
    (base g n cap i : Nat) (xs : List El) (Y : El) (hn : xs.length = n) (hown : w.ownsRow base 32 8 (.slice (some ⟨g, 0, none⟩) n cap) n (evals xs)) (hi : i < n)
    (hx : a.eval x = .pointer (some ⟨g, i * 8, none⟩)) (hy : a.eval y = .agg (ecells Y).toArray)
    (h : ∀ w', w'.ownsRow base 32 8 (.slice (some ⟨g, 0, none⟩) n cap) n (evals (xs.set i Y)) → Chg [g] w w' → wpList Try.prog ops Q rest a w') : wpList Try.prog ops Q (o :: rest) a w := by
  subst hn
  obtain ⟨hl, h0 | ⟨g', cap', cur, hv, hb, hg, hnc, hcm, hsz, htk⟩⟩ := hown
  · cases h0.1
  · cases hv
    have hcl : cur.toList.length = cap * 8 := by rw [Array.length_toList]; exact hsz
    have h8 : (ecells Y).length = 8 := rfl
    refine wpList_st 32 8 g (i * 8) 32 (ecells Y).toArray cur _ x y hgd ho hd hx hy (by kernel_rfl) rfl hg (by rw [hsz]; omega) (fun v hv => ?_) rfl fun w' hB hC => ?_
    · have h1 := evals_one [Y] v
      simp only [evals, List.append_nil] at h1
      exact h1 (by simpa using hv)
    · refine h w' ⟨by rw [evals_len, List.length_set], .inr ⟨g, cap, _, rfl, hb, hB, hnc, hcm, ?_, ?_⟩⟩ hC
      · simp only [List.size_toArray, List.length_append, List.length_take, List.length_drop, hcl, h8]
        omega
      · rw [evals_set xs i Y hi, ← htk, List.take_take, Nat.min_eq_left (by omega), List.drop_take, List.append_assoc, List.append_assoc]
        show List.take (xs.length * 8) (List.take (i * 8) cur.toList ++ (ecells Y ++ List.drop (i * 8 + 8) cur.toList)) = _
        rw [show xs.length * 8 = i * 8 + (8 + (xs.length * 8 - (i * 8 + 8))) by omega, take_cat _ _ (i * 8) _ (by rw [List.length_take, hcl]; omega), take_cat _ _ 8 _ h8, show i * 8 + (8 + (xs.length * 8 - (i * 8 + 8))) - (i * 8 + 8) = xs.length * 8 - (i * 8 + 8) by omega]

/-- Entries cloned: their bytes are the old ones still. -/
def RetCl (w : World) (xs : List El) (e : Ending) (w' : World) : Prop :=
  ∃ va vc, e = .returned (.slice va xs.length vc) ∧ w'.ownsRow w.heap.size 32 8 (.slice va xs.length vc) xs.length (evals xs) ∧ Below w.heap.size w w'

set_option maxRecDepth 100000 in
set_option maxHeartbeats 1000000 in
theorem cloneEnts_any (a : Option Addr) (cap l : Nat) (xs : List El) (w : World) (hl : xs.length = l) (hm : l ≤ 1000000) (h : ∀ j u, (evals xs)[j]? = some u → ∃ b off, a = some ⟨b, off, none⟩ ∧ w.cell? ⟨b, off + j, none⟩ = some u) :
    Calls Try.prog 42 #[.slice a l cap] w (RetCl w xs) := by
  have q22 : ∀ (w : World) (a : Option Addr) (n c n' c' : Nat), (binOp .eql 36 (.slice a n c) (.slice none n' c')).run Try.prog w = .ok (.bool a.isNone) w := fun w a n c n' c' => Lib.run_eql_slice_nil w _ _ a n c n' c' Try.underlying36
  have HL := Lib.hid hl
  have HS := Lib.hid h
  rcases a with _ | ad
  · have h0 : xs = [] := by
      cases xs with
      | nil => rfl
      | cons x xs => obtain ⟨b, off, e, _⟩ := h 0 (.int .i64 x.p.seq) rfl; cases e
    subst h0
    obtain rfl : l = 0 := by simpa using hl.symm
    clear hl h HL HS
    go_enter Try.func42, Try.ntmps42
    go_wp2
    go_ret
    exact ⟨none, 0, rfl, World.ownsRow_nil _ _ _ _, Below.refl _ _⟩
  · clear hl h
    have HC : Hid (∀ j u, (evals xs)[j]? = some u → ∃ b off, some ad = some ⟨b, off, none⟩ ∧ (w.alloc (.cells #[] 32)).cell? ⟨b, off + j, none⟩ = some u) := fun j u hj => by
      obtain ⟨b, off, e, hc⟩ := HS.out j u hj
      exact ⟨b, off, e, cell_later (below_one _ _) hc⟩
    go_enter Try.func42, Try.ntmps42
    go_wp2_with (at_builtin; refine wpList_appRaw rfl (.tmp 5) (.tmp 6) 36 32 rfl Try.underlying36 _ 8 88 infoE rfl (by omega) (by omega) w.heap.size (some ⟨w.heap.size, 0, none⟩) 0 0 [] rfl (row_lit w w.heap.size w.heap.size 32 8 rfl (Nat.le_refl _)) (some ad) l cap (evals xs) rfl (by rw [evals_len, HL.out]) HC.out (evals_one xs) (by omega) (by simp) ?_; intro va vc w2 ho hg)
    have HR : Hid (RetCl w xs (.returned (.slice va l vc)) w2) := by
      rw [List.nil_append, Nat.zero_add] at ho
      have hb2 : Below w.heap.size w w2 := (Chg.of_grown hg).below (below_one w _) (by simp) (by simp)
      exact ⟨va, vc, by rw [HL.out], by rw [HL.out]; exact ho, hb2⟩
    clear ho hg
    go_ret
    exact HR.out

end Go.Proofs.Ytdgpbdedaafdiaa
