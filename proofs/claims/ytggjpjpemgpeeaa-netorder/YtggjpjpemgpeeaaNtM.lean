/-
  slices.Delete of one row out of a slice of rows of the call's own.
  net: a network in memory ('NtA', 'Nt'), and what its methods do to it.
-/
import Derived.Test.YtggjpjpemgpeeaaDk
import Derived.Deep.RegionLaw
import Derived.Lib.SliceRun
import Derived.Test.YtggjpjpemgpeeaaMapC
import Derived.Test.YtggjpjpemgpeeaaMg
namespace Go.Proofs.Ytggjpjpemgpeeaa
open Go.RowKit

theorem owns_setCells {base g n cap : Nat} {e : TypeId} : ∀ (vs : List Value) (o : Nat) (w : World) (xs : List Value), w.ownsRow base e 1 (.slice (some ⟨g, 0, none⟩) n cap) n xs → o + vs.length ≤ n →
    (w.setCells g o vs).ownsRow base e 1 (.slice (some ⟨g, 0, none⟩) n cap) n (xs.take o ++ vs ++ xs.drop (o + vs.length)) ∧ Chg [g] w (w.setCells g o vs)
  | [], o, w, xs, h, _ => by
    refine ⟨?_, Chg.refl _ _⟩
    show w.ownsRow _ _ _ _ _ (xs.take o ++ [] ++ xs.drop (o + 0))
    rw [List.append_nil, Nat.add_zero, List.take_append_drop]
    exact h
  | v :: r, o, w, xs, h, hl => by
    have hlen := h.1
    simp only [List.length_cons] at hl
    have h1 := World.ownsRow.stored h o v
    have ih := owns_setCells r (o + 1) (w.setCell ⟨g, o, none⟩ v) (xs.set o v) h1.1 (by omega)
    refine ⟨?_, (Chg.of_grown h1.2).trans ih.2⟩
    have e : (xs.set o v).take (o + 1) ++ r ++ (xs.set o v).drop (o + 1 + r.length) = xs.take o ++ v :: r ++ xs.drop (o + (v :: r).length) := by
      rw [List.drop_set_of_lt (by omega), List.take_add_one, List.take_set_of_le (by omega), List.getElem?_set_self (by omega)]
      simp
      omega
    rw [← e]
    exact ih.1

set_option maxRecDepth 100000 in
set_option maxHeartbeats 1000000 in
theorem del_raw (g n cap i j : Nat) (f : Nat → Value) (w : World) (hc : ∀ k, k < n → w.cell? ⟨g, k, none⟩ = some (f k)) (hf : ∀ k, w.frozen? ⟨g, k, none⟩ = false) (h1 : ∀ k, k < n → (f k).oneCell' = true)
    (hij : i < j) (hj : j ≤ n) (hn : n ≤ cap) (hm : cap ≤ maxLen) :
    Calls Try.prog 69 #[.slice (some ⟨g, 0, none⟩) n cap, .int .i64 (i : Int), .int .i64 (j : Int)] w fun e w' =>
      e = .returned (.slice (some ⟨g, 0, none⟩) (i + (n - j)) cap) ∧ w' = (w.drew.setCells g i ((List.range (n - j)).map fun t => f (j + t))).setCells g (i + (n - j)) (List.replicate (n - (i + (n - j))) (.slice none 0 0)) := by
  have hm' : cap ≤ 9223372036854775807 := by unfold maxLen at hm; omega
  clear hm
  obtain ⟨news, hnews⟩ : ∃ news, news = (List.range (n - j)).map fun t => f (j + t) := ⟨_, rfl⟩
  have hlen : news.length = n - j := by rw [hnews]; simp
  have hget : ∀ t, t < n - j → news[t]? = some (f (j + t)) := fun t ht => by rw [hnews]; simp [ht]
  obtain ⟨A, hA, hsrc⟩ : ∃ A : Addr, (if cap = j then (some ⟨g, 0, none⟩ : Option Addr) else some ⟨g, j, none⟩) = some A ∧ Hid (∀ t u, news[t]? = some u → w.drew.cell? (A.add t) = some u) := by
    by_cases h : cap = j
    · refine ⟨⟨g, 0, none⟩, by simp [h], fun t u hu => ?_⟩
      have h0 : news.length = 0 := by rw [hlen]; omega
      rw [List.length_eq_zero_iff.1 h0] at hu
      simp at hu
    · refine ⟨⟨g, j, none⟩, by simp [h], fun t u hu => ?_⟩
      have ht : t < n - j := by
        have := (List.getElem?_eq_some_iff.1 hu).1
        rwa [hlen] at this
      rw [hget t ht] at hu
      rw [Go.WideShapes.add_plain]
      exact (hc (j + t) (by omega)).trans hu
  have s1 : Hid (news.length = (n - j) * 1) := by rw [Nat.mul_one]; exact hlen
  have s2 : Hid (∀ u ∈ news, u.oneCell' = true) := by
    intro u hu
    rw [hnews] at hu
    obtain ⟨t, ht, rfl⟩ := List.mem_map.1 hu
    have := List.mem_range.1 ht
    exact h1 _ (by omega)
  have s3 : Hid (∀ t, t < news.length → (w.drew.cell? ⟨g, 0 + i * 1 + t, none⟩).isSome = true ∧ w.drew.frozen? ⟨g, 0 + i * 1 + t, none⟩ = false) := by
    intro t ht
    rw [hlen] at ht
    rw [show 0 + i * 1 + t = i + t by omega]
    exact ⟨by show (w.cell? _).isSome = true; rw [hc (i + t) (by omega)]; rfl, hf _⟩
  obtain ⟨W1, hW1⟩ : ∃ W1, W1 = w.drew.setCells g i news := ⟨_, rfl⟩
  have hW1c : ∀ k, k < n → (W1.cell? ⟨g, k, none⟩).isSome = true := fun k hk => by
    rw [hW1]
    have h0 : ∀ q, q < n → (w.drew.cell? ⟨g, q, none⟩).isSome = true := fun q hq => by show (w.cell? _).isSome = true; rw [hc q hq]; rfl
    by_cases hr : i ≤ k ∧ k < i + news.length
    · have := World.cell?_setCells_in g news i w.drew (fun q hq => h0 (i + q) (by omega)) (k - i) (by omega)
      rw [show i + (k - i) = k by omega] at this
      rw [this]; rfl
    · rw [World.cell?_setCells_out g news i w.drew ⟨g, k, none⟩ (fun _ _ => by show k < i ∨ i + news.length ≤ k; omega)]
      exact h0 k hk
  have hW1f : ∀ k, W1.frozen? ⟨g, k, none⟩ = false := fun k => by rw [hW1, World.frozen?_setCells]; exact hf k
  have hcl : ∀ ty, (Builtin.clear_ #[96] ty #[.slice (some ⟨g, i + (n - j), none⟩) (n - (i + (n - j))) (cap - (i + (n - j)))]).run Try.prog W1 = .ok (.tuple #[]) (W1.setCells g (i + (n - j)) (List.replicate (n - (i + (n - j))) (.slice none 0 0))) :=
    fun ty => Lib.run_clear_slice W1 _ _ ty (.slice none 0 0) Try.underlying96 (fun w => by kernel_rfl) rfl rfl g (i + (n - j)) _ _ (by omega) (fun t ht => hW1c _ (by omega)) (fun t ht => hW1f _)
  have X : Hid (W1 = w.drew.setCells g i news) := hW1
  have XN : Hid (news = (List.range (n - j)).map fun t => f (j + t)) := hnews
  have hW : Hid (W1 = w.drew.setCells g (0 + i * 1) news) := by rw [show 0 + i * 1 = i by omega]; exact hW1
  have hic : i ≤ cap := by omega
  have hjc : j ≤ cap := by omega
  have hne : i ≠ j := by omega
  clear hW1 hc hf h1 hget hnews hlen hW1c hW1f
  go_enter Try.func69, Try.ntmps69
  go_wp2_with fail
  go_region_law (refine step_append_room rfl (.tmp 22) (.tmp 25) 96 rfl 23 _ 1 Try.underlying96 rfl rfl g 0 i cap (by simp [Act.eval, Act.put]) A (n - j) (cap - j) news (by simp [Act.eval, Act.put]) s1.out hsrc.out s2.out (by omega) s3.out ?_; rw [← hW.out])
  go_wp2
  go_ret
  refine ⟨rfl, ?_⟩
  rw [← XN.out, ← X.out]

end Go.Proofs.Ytggjpjpemgpeeaa

namespace Go.Proofs.Ytggjpjpemgpeeaa
open Go.RowKit

theorem owns_shrink {w : World} {base g n cap m : Nat} {e : TypeId} {xs : List Value} (h : w.ownsRow base e 1 (.slice (some ⟨g, 0, none⟩) n cap) n xs) (hm : m ≤ n) : w.ownsRow base e 1 (.slice (some ⟨g, 0, none⟩) m cap) m (xs.take m) := by
  have hl := h.1
  refine ⟨by rw [List.length_take]; omega, ?_⟩
  rcases h.2 with ⟨e1, _⟩ | ⟨g', c', cur, e1, hb, hg, hnc, hcm, hcs, ht⟩
  · cases e1
  · cases e1
    refine .inr ⟨g, cap, cur, rfl, hb, hg, by omega, hcm, hcs, ?_⟩
    rw [← ht, List.take_take, Nat.min_eq_left (by omega), Nat.mul_one]

/-- slices.Delete of row i. -/
theorem del_any {w : World} {base g cap : Nat} {xs : List Rw} (h : Rws w base (some ⟨g, 0, none⟩) cap xs) (i n : Nat) (hn : xs.length = n) (hi : i < n) :
    Calls Try.prog 69 #[.slice (some ⟨g, 0, none⟩) n cap, .int .i64 (i : Int), .int .i64 ((i : Int) + 1)] w fun e w' =>
      ∃ n', n' + 1 = n ∧ e = .returned (.slice (some ⟨g, 0, none⟩) n' cap) ∧ Rws w' base (some ⟨g, 0, none⟩) cap (xs.eraseIdx i) ∧ Chg [g] w w' := by
  subst hn
  have hle := h.le
  have hcell : ∀ k, k < xs.length → w.cell? ⟨g, k, none⟩ = some ((xs.getD k ⟨none, 0, []⟩).val) := fun k hk => by
    obtain ⟨g', e, hc⟩ := h.row ⟨none, 0, []⟩ k hk
    cases e
    exact hc
  have hr := del_raw g xs.length cap i (i + 1) (fun k => (xs.getD k ⟨none, 0, []⟩).val) w hcell (fun k => World.ownsRow.frozenAt h.own k) (fun k _ => rfl) (by omega) (by omega) hle.1 hle.2
  rw [show (((i + 1 : Nat)) : Int) = (i : Int) + 1 from rfl] at hr
  refine hr.mono ?_
  rintro e w' ⟨rfl, rfl⟩
  obtain ⟨n', hn'⟩ : ∃ n', n' + 1 = xs.length := ⟨xs.length - 1, by omega⟩
  rw [show i + (xs.length - (i + 1)) = n' by omega, show xs.length - n' = 1 by omega]
  obtain ⟨news, hnews⟩ : ∃ news, news = (List.range (xs.length - (i + 1))).map fun t => (xs.getD (i + 1 + t) ⟨none, 0, []⟩).val := ⟨_, rfl⟩
  have hv : news = (xs.map Rw.val).drop (i + 1) := by
    rw [hnews]
    apply List.ext_getElem
    · simp
    · intro t h1 h2
      simp at h1
      have ht : i + 1 + t < xs.length := by omega
      simp [List.getD_eq_getElem?_getD, List.getElem?_eq_getElem ht]
  have hnl : news.length = xs.length - (i + 1) := by rw [hnews]; simp
  rw [← hnews]
  have hd : w.drew.ownsRow base 23 1 (.slice (some ⟨g, 0, none⟩) xs.length cap) xs.length (xs.map Rw.val) := h.own
  have o1 := owns_setCells news i w.drew _ hd (by omega)
  have o2 := owns_setCells (List.replicate 1 (Value.slice none 0 0)) n' _ _ o1.1 (by simp; omega)
  have o3 := owns_shrink o2.1 (m := n') (by omega)
  have hchg : Chg [g] w ((w.drew.setCells g i news).setCells g n' (List.replicate 1 (Value.slice none 0 0))) := ((Chg.refl _ w).drew.trans o1.2).trans o2.2
  refine ⟨n', hn', rfl, ⟨?_, fun x hx => ?_, fun x hx g' hg' => ?_⟩, hchg⟩
  · have e1 : (xs.eraseIdx i).length = n' := by rw [List.length_eraseIdx_of_lt (by omega)]; omega
    have e2 : (xs.eraseIdx i).map Rw.val = ((((xs.map Rw.val).take i ++ news ++ (xs.map Rw.val).drop (i + news.length)).take n' ++ List.replicate 1 (Value.slice none 0 0) ++ ((xs.map Rw.val).take i ++ news ++ (xs.map Rw.val).drop (i + news.length)).drop (n' + (List.replicate 1 (Value.slice none 0 0)).length))).take n' := by
      have hA : ((xs.map Rw.val).take i ++ news).length = n' := by rw [List.length_append, List.length_take, List.length_map]; omega
      rw [List.take_append, List.take_append]
      rw [show (((xs.map Rw.val).take i ++ news ++ (xs.map Rw.val).drop (i + news.length)).take n') = (xs.map Rw.val).take i ++ news by rw [List.take_append, hA, Nat.sub_self, List.take_zero, List.append_nil, List.take_of_length_le (by omega)]]
      rw [List.take_of_length_le (by omega), hA, Nat.sub_self, List.take_zero, List.append_nil]
      rw [show n' - ((xs.map Rw.val).take i ++ news ++ List.replicate 1 (Value.slice none 0 0)).length = 0 by rw [List.length_append, hA]; omega, List.take_zero, List.append_nil, hv, List.eraseIdx_eq_take_drop_succ]
      simp
    rw [e1, e2]
    exact o3
  · have hm : x ∈ xs := (List.eraseIdx_sublist _ _).subset hx
    exact seen_chg (h.seen x hm) hchg fun g' hg' => by
      have := (h.far x hm g' hg').1
      simpa [blk] using this
  · have hm : x ∈ xs := (List.eraseIdx_sublist _ _).subset hx
    exact ⟨(h.far x hm g' hg').1, Nat.lt_of_lt_of_le (h.far x hm g' hg').2 hchg.size⟩

/-- A network in block R: its rows at ga, its map in block o, all its blocks N, its messages ms, its cut links ks. -/
structure NtA (w : World) (base R : Nat) (ga : Option Addr) (o : Option Nat) (N : List Nat) (ms : List Pm) (ks : List (Int × Int)) : Prop where
  rows : ∃ cap xs, w.cell? ⟨R, 0, none⟩ = some (.slice ga xs.length cap) ∧ Rws w base ga cap xs ∧ xs.map Rw.ps = ms.map encMg ∧ ∀ x ∈ xs, ∀ g ∈ blk x.loc, g ∈ N ∧ g ≠ R ∧ o ≠ some g
  c1 : w.cell? ⟨R, 1, none⟩ = some (.map o)
  links : SetN w o ks
  free : ∀ k, w.frozen? ⟨R, k, none⟩ = false
  good : ∀ m ∈ ms, m.Wf ∧ sndMg m = true
  most : ms.length ≤ 1024
  up : ∀ p ∈ ks, p.1 < p.2
  neG : R ∉ blk ga
  neO : o ≠ some R
  neGO : ∀ g ∈ blk ga, o ≠ some g
  inR : R ∈ N
  inG : ∀ g ∈ blk ga, g ∈ N
  inO : ∀ b, o = some b → b ∈ N
  nLt : ∀ g ∈ N, base ≤ g ∧ g < w.heap.size

def Nt (w : World) (base R : Nat) (N : List Nat) (ms : List Pm) (ks : List (Int × Int)) : Prop := ∃ ga o, NtA w base R ga o N ms ks

theorem SetN.chg {gs : List Nat} {w w' : World} {o : Option Nat} {ks : List (Int × Int)} (h : SetN w o ks) (hb : Chg gs w w') (hn : ∀ b, o = some b → b ∉ gs) : SetN w' o ks := by
  cases o with
  | none => exact h
  | some b => exact SetC.chg h hb (hn b rfl)

section
variable {w w' w2 : World} {base R : Nat} {ga : Option Addr} {o : Option Nat} {N : List Nat} {ms : List Pm} {ks : List (Int × Int)}

theorem NtA.chg {gs : List Nat} (h : NtA w base R ga o N ms ks) (hb : Chg gs w w') (hn : ∀ g ∈ N, g ∉ gs) : NtA w' base R ga o N ms ks := by
  obtain ⟨cap, xs, h1, h2, h3, h4⟩ := h.rows
  have hR := hn R h.inR
  exact ⟨⟨cap, xs, hb.cell h1 hR, h2.chg hb (fun g hg => hn g (h.inG g hg)) (fun x hx g hg => hn g (h4 x hx g hg).1), h3, h4⟩, hb.cell h.c1 hR, h.links.chg hb (fun b e => hn b (h.inO b e)),
    fun k => by rw [World.frozen?_of_block (hb.block R (h.nLt R h.inR).2 hR)]; exact h.free k, h.good, h.most, h.up, h.neG, h.neO, h.neGO, h.inR, h.inG, h.inO, fun g hg => ⟨(h.nLt g hg).1, Nat.lt_of_lt_of_le (h.nLt g hg).2 hb.size⟩⟩

theorem NtA.below (h : NtA w base R ga o N ms ks) (hb : Below w.heap.size w w') : NtA w' base R ga o N ms ks := h.chg (gs := []) (Chg.of_below hb) (by simp)

theorem Nt.chg {gs : List Nat} (h : Nt w base R N ms ks) (hb : Chg gs w w') (hn : ∀ g ∈ N, g ∉ gs) : Nt w' base R N ms ks := by
  obtain ⟨ga, o, h⟩ := h
  exact ⟨ga, o, h.chg hb hn⟩

theorem Nt.below (h : Nt w base R N ms ks) (hb : Below w.heap.size w w') : Nt w' base R N ms ks := h.chg (gs := []) (Chg.of_below hb) (by simp)

theorem Nt.nLt (h : Nt w base R N ms ks) : ∀ g ∈ N, base ≤ g ∧ g < w.heap.size := by
  obtain ⟨ga, o, h⟩ := h
  exact NtA.nLt h

theorem Nt.good (h : Nt w base R N ms ks) : ∀ m ∈ ms, m.Wf ∧ sndMg m = true := by
  obtain ⟨ga, o, h⟩ := h
  exact NtA.good h

theorem Nt.most (h : Nt w base R N ms ks) : ms.length ≤ 1024 := by
  obtain ⟨ga, o, h⟩ := h
  exact NtA.most h

theorem Nt.up (h : Nt w base R N ms ks) : ∀ p ∈ ks, p.1 < p.2 ∧ SmallP p := by
  obtain ⟨ga, o, h⟩ := h
  exact fun p hp => ⟨NtA.up h p hp, SetN.small h.links p hp⟩

/-- More blocks are counted among a network's own. -/
theorem NtA.more (h : NtA w base R ga o N ms ks) (Y : List Nat) (hY : ∀ g ∈ Y, base ≤ g ∧ g < w.heap.size) : NtA w base R ga o (Y ++ N) ms ks := by
  obtain ⟨cap, xs, h1, h2, h3, h4⟩ := h.rows
  exact ⟨⟨cap, xs, h1, h2, h3, fun x hx g hg => ⟨List.mem_append_right _ (h4 x hx g hg).1, (h4 x hx g hg).2⟩⟩, h.c1, h.links, h.free, h.good, h.most, h.up, h.neG, h.neO, h.neGO, List.mem_append_right _ h.inR, fun g hg => List.mem_append_right _ (h.inG g hg), fun b e => List.mem_append_right _ (h.inO b e), fun g hg => by
    rcases List.mem_append.mp hg with hg | hg
    · exact hY g hg
    · exact h.nLt g hg⟩

/-- The rows are others now; the slice is stored. -/
theorem NtA.put (h : NtA w base R ga o N ms ks) {gs : List Nat} (hb : Chg gs w w2) (hgs : ∀ g ∈ gs, g ∈ blk ga) {ga' : Option Addr} {cap' n : Nat} {xs : List Rw} {ms' : List Pm} (hr : Rws w2 base ga' cap' xs) (hat : ∀ g ∈ blk ga', g ∈ blk ga ∨ w.heap.size ≤ g)
    (hx : ∀ x ∈ xs, ∀ g ∈ blk x.loc, g ∈ N ∧ g ≠ R ∧ o ≠ some g) (hps : xs.map Rw.ps = ms'.map encMg) (hgood : ∀ m ∈ ms', m.Wf ∧ sndMg m = true) (hmost : ms'.length ≤ 1024) (hn : xs.length = n) :
    NtA (w2.setCell ⟨R, 0, none⟩ (.slice ga' n cap')) base R ga' o (blk ga' ++ N) ms' ks ∧ Mv w (w2.setCell ⟨R, 0, none⟩ (.slice ga' n cap')) N (blk ga' ++ N) := by
  subst hn
  obtain ⟨cap, ys, h1, h2, h3, h4⟩ := h.rows
  have hRlt := (h.nLt R h.inR).2
  have hRg : R ∉ gs := fun e => h.neG (hgs _ e)
  have hRga : R ∉ blk ga' := fun e => by
    rcases hat R e with e | e
    · exact h.neG e
    · omega
  have hOg : ∀ b, o = some b → b ∉ gs := fun b e hm => h.neGO b (hgs b hm) e
  have hc1 := chg_set1 w2 R 0 (.slice ga' xs.length cap')
  have hRb : ∀ g ∈ blk ga', g ∉ [R] := fun g hg e => hRga (by simp at e; exact e ▸ hg)
  refine ⟨⟨⟨cap', xs, World.cell?_setCell_same _ _ _ (hb.cell h1 hRg), hr.chg hc1 hRb (fun x hx' g hg => by simp; exact (hx x hx' g hg).2.1), hps, fun x hx' g hg => ⟨List.mem_append_right _ (hx x hx' g hg).1, (hx x hx' g hg).2⟩⟩, ?_,
    (h.links.chg hb hOg).chg hc1 (fun b e => by simp; rintro rfl; exact h.neO e), fun k => ?_, hgood, hmost, h.up, hRga, h.neO, fun g hg e => ?_, List.mem_append_right _ h.inR, fun g hg => List.mem_append_left _ hg, fun b e => List.mem_append_right _ (h.inO b e), fun g hg => ?_⟩, ⟨?_, fun g hg => ?_⟩⟩
  · rw [World.cell?_setCell_other _ _ _ _ (by simp)]
    exact hb.cell h.c1 hRg
  · rw [World.frozen?_setCell, World.frozen?_of_block (hb.block R hRlt hRg)]
    exact h.free k
  · rcases hat g hg with h5 | h5
    · exact h.neGO g h5 e
    · have := (h.nLt g (h.inO g e)).2; omega
  · have hsz := hc1.size
    rcases List.mem_append.mp hg with hg | hg
    · have := hr.lt hg; omega
    · have := h.nLt g hg; have := hb.size; omega
  · exact (hb.mono fun g hg => h.inG g (hgs g hg)).trans (hc1.mono fun g hg => by simp at hg; rw [hg]; exact h.inR)
  · rcases List.mem_append.mp hg with hg | hg
    · rcases hat g hg with h5 | h5
      · exact .inl (h.inG g h5)
      · exact .inr h5
    · exact .inl hg

/-- The links are others now. -/
theorem NtA.relink {b : Nat} {ks' : List (Int × Int)} (h : NtA w base R ga (some b) N ms ks) (hb : Chg [b] w w2) (hs : SetC w2 b ks') (hup : ∀ p ∈ ks', p.1 < p.2) : NtA w2 base R ga (some b) N ms ks' ∧ Mv w w2 N N := by
  obtain ⟨cap, xs, h1, h2, h3, h4⟩ := h.rows
  have hR : R ∉ [b] := by simp; rintro rfl; exact h.neO rfl
  have hRlt := (h.nLt R h.inR).2
  refine ⟨⟨⟨cap, xs, hb.cell h1 hR, h2.chg hb (fun g hg => by simp; rintro rfl; exact h.neGO _ hg rfl) (fun x hx g hg => by simp; rintro rfl; exact (h4 x hx _ hg).2.2 rfl), h3, h4⟩, hb.cell h.c1 hR, hs, fun k => by rw [World.frozen?_of_block (hb.block R hRlt hR)]; exact h.free k, h.good, h.most, hup, h.neG, h.neO, h.neGO, h.inR, h.inG, h.inO, fun g hg => ⟨(h.nLt g hg).1, Nat.lt_of_lt_of_le (h.nLt g hg).2 hb.size⟩⟩, ⟨hb.mono fun g hg => ?_, fun g hg => .inl hg⟩⟩
  simp at hg
  rw [hg]
  exact h.inO b rfl

/-- A map is made and stored. -/
theorem NtA.map (h : NtA w base R ga none N ms ks) : NtA ((w.alloc (.map #[] 0)).setCell ⟨R, 1, none⟩ (.map (some w.heap.size))) base R ga (some w.heap.size) (w.heap.size :: N) ms [] ∧ Mv w ((w.alloc (.map #[] 0)).setCell ⟨R, 1, none⟩ (.map (some w.heap.size))) N (w.heap.size :: N) := by
  obtain ⟨cap, xs, h1, h2, h3, h4⟩ := h.rows
  have hRlt := (h.nLt R h.inR).2
  have hRb := (h.nLt R h.inR).1
  have hb := below_one w (.map #[] 0)
  have hc := chg_set1 (w.alloc (.map #[] 0)) R 1 (.map (some w.heap.size))
  have hsz : (w.alloc (.map #[] 0)).heap.size = w.heap.size + 1 := by simp
  have hnN : ∀ g ∈ N, g ≠ w.heap.size := fun g hg e => by have := (h.nLt g hg).2; omega
  refine ⟨⟨⟨cap, xs, ?_, (h2.below hb).chg hc (fun g hg e => h.neG (by simp at e; exact e ▸ hg)) (fun x hx g hg => by simp; exact (h4 x hx g hg).2.1), h3, fun x hx g hg => ⟨List.mem_cons_of_mem _ (h4 x hx g hg).1, (h4 x hx g hg).2.1, fun e => hnN g (h4 x hx g hg).1 (by simpa using e.symm)⟩⟩,
    World.cell?_setCell_same _ _ _ (cell_later hb h.c1), SetC.chg (setC_made w) hc (by simp; omega), fun k => ?_, h.good, h.most, by simp, h.neG, fun e => hnN R h.inR (by simpa using e.symm), fun g hg e => hnN g (h.inG g hg) (by simpa using e.symm), List.mem_cons_of_mem _ h.inR, fun g hg => List.mem_cons_of_mem _ (h.inG g hg), fun b e => by simp at e; simp [e], fun g hg => ?_⟩, ⟨?_, fun g hg => ?_⟩⟩
  · rw [World.cell?_setCell_other _ _ _ _ (by simp)]
    exact cell_later hb h1
  · rw [World.frozen?_setCell, hb.frozen hRlt]
    exact h.free k
  · have := hc.size
    rcases List.mem_cons.mp hg with rfl | hg
    · omega
    · have := h.nLt g hg; omega
  · exact (Chg.of_below hb).trans (hc.mono fun g hg => by simp at hg; rw [hg]; exact h.inR)
  · rcases List.mem_cons.mp hg with rfl | hg
    · exact .inr (Nat.le_refl _)
    · exact .inl hg

end

end Go.Proofs.Ytggjpjpemgpeeaa
