/-
  What holds as long as only some blocks turn ('Kp'); a row of entries of the store's own ('Er'); a store in memory ('So').
-/
import Derived.Test.YtdgpbdedaafdiaaSto
import Derived.Test.YtdgpbdedaafdiaaWalksC2
import Derived.Test.YtdgpbdedaafdiaaRaw
import Derived.Test.YtdgpbdedaafdiaaAwake9
namespace Go.Proofs.Ytdgpbdedaafdiaa
open Go.RowKit

/-- P holds as long as of the old blocks only those of M turn. -/
def Kp (M : List Nat) (w : World) (P : World → Prop) : Prop := ∀ gs w2, Chg gs w w2 → (∀ g ∈ gs, g ∈ M ∨ w.heap.size ≤ g) → P w2

section
variable {M N M' : List Nat} {w w' : World} {P Q : World → Prop}

theorem Kp.now (h : Kp M w P) : P w := h [] w (Chg.refl _ _) (by simp)

theorem Kp.mv (h : Kp M w P) (hm : Mv w w' M M') : Kp M' w' P := fun gs w2 hc hg =>
  h (M ++ gs) w2 ((hm.chg.mono (fun g hg => List.mem_append_left _ hg)).trans (hc.mono fun g hg => List.mem_append_right _ hg)) fun g hm' => by
    rcases List.mem_append.mp hm' with h1 | h1
    · exact .inl h1
    · rcases hg g h1 with h2 | h2
      · exact hm.now g h2
      · exact .inr (Nat.le_trans hm.chg.size h2)

theorem Kp.below (h : Kp M w P) (hb : Below w.heap.size w w') : Kp M w' P := h.mv (Mv.of_below M hb)

theorem Kp.sub (h : Kp M w P) (hs : ∀ g ∈ N, g ∈ M ∨ w.heap.size ≤ g) : Kp N w P := h.mv ⟨Chg.refl _ _, hs⟩

theorem Kp.imp (h : Kp M w P) (hi : ∀ x, P x → Q x) : Kp M w Q := fun gs w2 hc hg => hi _ (h gs w2 hc hg)

theorem Kp.and (h : Kp M w P) (k : Kp M w Q) : Kp M w fun x => P x ∧ Q x := fun gs w2 hc hg => ⟨h gs w2 hc hg, k gs w2 hc hg⟩

theorem kp_rob {lo hi : Nat} (h : Rob lo hi w P) (hM : ∀ g ∈ M, g < lo ∨ hi ≤ g) (hh : hi ≤ w.heap.size) : Kp M w P := fun gs w2 hc hg => h gs w2 hc fun g hm => by
  rcases hg g hm with h1 | h1
  · exact hM g h1
  · right; omega

/-- New memory. -/
theorem kp_new {w0 : World} (h : Rob w0.heap.size w.heap.size w P) (hM : ∀ g ∈ M, g < w0.heap.size) : Kp M w P := kp_rob h (fun g hg => .inl (hM g hg)) (Nat.le_refl _)

/-- Memory that was there ahead of a world. -/
theorem kp_old {w0 : World} (hP : ∀ w', Below w0.heap.size w0 w' → P w') (hb : Below w0.heap.size w0 w) (hM : ∀ g ∈ M, w0.heap.size ≤ g) : Kp M w P := fun gs w2 hc hg => hP w2 (hc.below hb hb.size fun g hm => by
  rcases hg g hm with h | h
  · exact hM g h
  · exact Nat.le_trans hb.size h)

theorem kp_seen {a : Option Addr} {c : Nat} {ps : List Nat} (h : SeenAt w a c ps) (hM : ps ≠ [] → ∀ g ∈ blk a, g ∉ M) : Kp M w fun x => SeenAt x a c ps := fun gs w2 hc hg => by
  by_cases h0 : ps = []
  · subst h0; exact SeenAt.nil h.max
  · refine h.chg hc fun b o e hm => ?_
    rcases hg b hm with h1 | h1
    · exact hM h0 b (by rw [e]; simp [blk]) h1
    · have := seen_lt h h0 e; omega

end

theorem Rob.below {lo hi : Nat} {w w' : World} {P : World → Prop} (h : Rob lo hi w P) (hb : Below w.heap.size w w') : Rob lo hi w' P := h.chg (gs := []) (Chg.of_below hb) (by simp)

theorem Rob.wide {lo hi lo' hi' : Nat} {w : World} {P : World → Prop} (h : Rob lo hi w P) (hl : lo' ≤ lo) (hh : hi ≤ hi') : Rob lo' hi' w P := fun gs w2 hc hg => h gs w2 hc fun g hm => by
  have := hg g hm
  omega

theorem rob_seen {lo hi : Nat} {w : World} {a : Option Addr} {c : Nat} {ps : List Nat} (h : SeenAt w a c ps) (hM : ps ≠ [] → ∀ g ∈ blk a, lo ≤ g ∧ g < hi) : Rob lo hi w fun x => SeenAt x a c ps := fun gs w2 hc hg => by
  by_cases h0 : ps = []
  · subst h0; exact SeenAt.nil h.max
  · refine h.chg hc fun b o e hm => ?_
    have h1 := hM h0 b (by rw [e]; simp [blk])
    have h2 := hg b hm
    omega

theorem fresh_blk {w0 w : World} {a : Option Addr} (h : Fresh w0 w a) : ∀ g ∈ blk a, w0.heap.size ≤ g ∧ g < w.heap.size := fun g hg => by
  rcases h with rfl | ⟨b, o, rfl, h1, h2⟩
  · simp [blk] at hg
  · simp [blk] at hg; omega

/-- A row of entries of one's own at base; their bytes stay as long as only M turns. -/
structure Er (w : World) (base : Nat) (M : List Nat) (a : Option Addr) (c : Nat) (es : List Pe) : Prop where
  row : ∃ xs : List El, xs.map (·.p) = es ∧ w.ownsRow base 32 8 (.slice a xs.length c) xs.length (evals xs) ∧ ∀ x ∈ xs, Kp M w fun y => SeenAt y x.loc x.cap x.p.frag
  wf : ∀ e ∈ es, e.Wf

section
variable {w w' : World} {base c : Nat} {M M' : List Nat} {a : Option Addr} {es : List Pe}

theorem er_nil (w : World) (base : Nat) (M : List Nat) : Er w base M none 0 [] := ⟨⟨[], rfl, World.ownsRow_nil _ _ _ _, by simp⟩, by simp⟩

theorem Er.ens (h : Er w base M a c es) : EnsAt w a c es := by
  obtain ⟨⟨xs, rfl, h1, h2⟩, hw⟩ := h
  exact ens_row h1 rfl (fun x hx => (h2 x hx).now) (fun x hx => hw _ (List.mem_map_of_mem hx))

theorem own_blk {a : Option Addr} {n c g : Nat} (e : Value.ownBlock (.slice a n c) = some g) : g ∈ blk a := by
  rcases a with _ | ad
  · simp [Value.ownBlock] at e
  · simp [Value.ownBlock, blk] at e ⊢; exact e.symm

theorem blk_own {a : Option Addr} {n c g : Nat} (e : g ∈ blk a) : Value.ownBlock (.slice a n c) = some g := by
  rcases a with _ | ad
  · simp [blk] at e
  · simp [Value.ownBlock, blk] at e ⊢; exact e.symm

theorem Er.lt (h : Er w base M a c es) {g : Nat} (hg : g ∈ blk a) : base ≤ g ∧ g < w.heap.size := by
  obtain ⟨⟨xs, rfl, h1, h2⟩, hw⟩ := h
  exact World.ownsRow.lt h1 g (blk_own hg)

theorem Er.go {gs : List Nat} (h : Er w base M a c es) (hc : Chg gs w w') (hgs : ∀ g ∈ gs, g ∈ M ∨ w.heap.size ≤ g) (hn : ∀ g ∈ blk a, g ∉ gs) (hM : ∀ g ∈ M', g ∈ M ∨ w.heap.size ≤ g) : Er w' base M' a c es := by
  obtain ⟨⟨xs, rfl, h1, h2⟩, hw⟩ := h
  refine ⟨⟨xs, rfl, hc.owns h1 (fun g e => hn g (own_blk e)), fun x hx => ?_⟩, hw⟩
  have hm : Mv w w' (M ++ gs) (M' ++ gs) := ⟨hc.mono fun g hg => List.mem_append_right _ hg, fun g hg => by
    rcases List.mem_append.mp hg with h | h
    · rcases hM g h with h | h
      · exact .inl (List.mem_append_left _ h)
      · exact .inr h
    · exact .inl (List.mem_append_right _ h)⟩
  exact (((h2 x hx).sub (N := M ++ gs) fun g hg => by
    rcases List.mem_append.mp hg with h | h
    · exact .inl h
    · exact hgs g h).mv hm).sub fun g hg => .inl (List.mem_append_left _ hg)

theorem Er.below (h : Er w base M a c es) (hb : Below w.heap.size w w') : Er w' base M a c es := h.go (gs := []) (Chg.of_below hb) (by simp) (by simp) (fun _ hg => .inl hg)

theorem Er.base' {base' : Nat} (h : Er w base M a c es) (hb : base' ≤ base) : Er w base' M a c es := by
  obtain ⟨⟨xs, rfl, h1, h2⟩, hw⟩ := h
  exact ⟨⟨xs, rfl, owns_base h1 hb, h2⟩, hw⟩

theorem er_of {lo hi : Nat} (h : RowE w lo hi a c es) (hw : ∀ e ∈ es, e.Wf) (hb : base ≤ lo) (hM : ∀ g ∈ M, g < lo ∨ hi ≤ g ∨ g ∈ blk a) : Er w base M a c es := by
  obtain ⟨xs, rfl, hE, hf, ho⟩ := h
  refine ⟨⟨xs, rfl, owns_base hE.own hb, fun x hx => kp_seen (hE.seen x hx) fun h0 g hg hm => ?_⟩, hw⟩
  obtain ⟨b, o, e⟩ : ∃ b o, x.loc = some ⟨b, o, none⟩ := by
    rcases hl : x.loc with _ | ⟨b, o, sp⟩
    · rw [hl] at hg; simp [blk] at hg
    · rcases sp with _ | q
      · exact ⟨b, o, rfl⟩
      · exfalso
        rw [hl] at hg
        obtain ⟨b', o', e', _⟩ := (hE.seen x hx).cell 0 (List.length_pos_iff.mpr h0)
        rw [hl] at e'
        cases e'
  have hgb : g = b := by rw [e] at hg; simpa [blk] using hg
  subst hgb
  obtain ⟨k1, k2, k3⟩ := hE.off x hx g o e
  have k4 := hf x hx g o e
  rcases hM g hm with h1 | h1 | h1
  · omega
  · omega
  · exact k3 g (blk_own h1) rfl

end

end Go.Proofs.Ytdgpbdedaafdiaa
