/-
  book: a book in memory ('Bk'), and what its disk does to it.
-/
import Derived.Test.YtdgpbdedaafdiaaGreatWalksB1
import Derived.Test.YtdgpbdedaafdiaaGreatExt2
namespace Go.Proofs.YtdgpbdedaafdiaaGreat
open Go.RowKit

/-- The blocks that a book's methods may turn. -/
def bkM (RB R : Nat) (a ga : Option Addr) : List Nat := RB :: R :: (blk a ++ blk ga)

/-- A book in block RB, its disk in block R, the disk's bytes at a, its encodings at ga. -/
structure Bk (w : World) (base RB R : Nat) (a ga : Option Addr) (s : DS) (cs : List (List Nat)) (F : List Nat) : Prop where
  dsk : Dsk w base R a s
  b0 : w.cell? ⟨RB, 0, none⟩ = some (.pointer (some ⟨R, 0, none⟩))
  rows : ∃ cap xs, w.cell? ⟨RB, 1, none⟩ = some (.slice ga xs.length cap) ∧ xs.map Rw.ps = cs ∧ Rws w base ga cap xs ∧ ∀ x ∈ xs, ∀ g ∈ blk x.loc, g ∉ bkM RB R a ga ∧ g ∈ F
  free : ∀ k, w.frozen? ⟨RB, k, none⟩ = false
  neR : RB ≠ R
  neA : RB ∉ blk a
  neG : RB ∉ blk ga
  rG : R ∉ blk ga
  aG : ∀ g ∈ blk a, g ∉ blk ga
  base : base ≤ RB

theorem Bk.lt {w : World} {base RB R : Nat} {a ga : Option Addr} {s : DS} {cs : List (List Nat)} {F : List Nat} (h : Bk w base RB R a ga s cs F) : RB < w.heap.size := World.block_lt_of_cell? w ⟨RB, 0, none⟩ h.b0

theorem Dsk.blkLt {w : World} {base R g : Nat} {a : Option Addr} {s : DS} (h : Dsk w base R a s) (hg : g ∈ blk a) : base ≤ g ∧ g < w.heap.size := by
  obtain ⟨cap, _, hc⟩ := h.con
  exact hc.lt hg

theorem Bk.mLt {w : World} {base RB R g : Nat} {a ga : Option Addr} {s : DS} {cs : List (List Nat)} {F : List Nat} (h : Bk w base RB R a ga s cs F) (hg : g ∈ bkM RB R a ga) : base ≤ g ∧ g < w.heap.size := by
  obtain ⟨cap, xs, _, _, hr, _⟩ := h.rows
  unfold bkM at hg
  simp only [List.mem_cons, List.mem_append] at hg
  rcases hg with rfl | rfl | hg | hg
  · exact ⟨h.base, h.lt⟩
  · exact ⟨h.dsk.base, h.dsk.lt⟩
  · exact h.dsk.blkLt hg
  · exact hr.lt hg

theorem Bk.chg {w w' : World} {base RB R : Nat} {a ga : Option Addr} {s : DS} {cs : List (List Nat)} {F : List Nat} {gs : List Nat} (h : Bk w base RB R a ga s cs F) (hb : Chg gs w w') (hn : ∀ g ∈ gs, w.heap.size ≤ g) : Bk w' base RB R a ga s cs F := by
  have hb0 : Below w.heap.size w w' := ⟨hb.os, hb.tape, hb.output, hb.size, fun k hk => hb.block k hk fun e => by have := hn k e; omega⟩
  obtain ⟨cap, xs, h1, h2, h3, h4⟩ := h.rows
  exact ⟨h.dsk.below hb0, cell_later hb0 h.b0, ⟨cap, xs, cell_later hb0 h1, h2, h3.below hb0, h4⟩, fun k => by rw [hb0.frozen h.lt]; exact h.free k, h.neR, h.neA, h.neG, h.rG, h.aG, h.base⟩

theorem Bk.below {w w' : World} {base RB R : Nat} {a ga : Option Addr} {s : DS} {cs : List (List Nat)} {F : List Nat} (h : Bk w base RB R a ga s cs F) (hb : Below w.heap.size w w') : Bk w' base RB R a ga s cs F :=
  h.chg (gs := []) (Chg.of_below hb) (by simp)

theorem Went.old {w : World} {a a' : Option Addr} (h : Went w a a') : ∀ g ∈ blk a', g ∈ blk a ∨ w.heap.size ≤ g := by
  intro g hg
  rcases h with rfl | rfl | ⟨g', rfl, hg'⟩
  · exact .inl hg
  · simp [blk] at hg
  · simp [blk] at hg
    subst hg
    exact .inr hg'

/-- The disk has been turned by one of its methods. -/
theorem Bk.wrote {w w' : World} {base RB R : Nat} {a a' ga : Option Addr} {s s' : DS} {cs : List (List Nat)} {F : List Nat} (h : Bk w base RB R a ga s cs F) (hd : Dsk w' base R a' s') (hb : Chg (R :: blk a) w w') (hw : Went w a a') : Bk w' base RB R a' ga s' cs F := by
  obtain ⟨cap, xs, h1, h2, h3, h4⟩ := h.rows
  have hRB : RB ∉ R :: blk a := by simp only [List.mem_cons, not_or]; exact ⟨h.neR, h.neA⟩
  have hx : ∀ x ∈ xs, ∀ g ∈ blk x.loc, g ∉ R :: blk a := fun x hx g hg e => (h4 x hx g hg).1 (by unfold bkM; simp only [List.mem_cons, List.mem_append] at e ⊢; rcases e with e | e; exact .inr (.inl e); exact .inr (.inr (.inl e)))
  have hga : ∀ g ∈ blk ga, g ∉ R :: blk a := fun g hg e => by
    rcases List.mem_cons.mp e with rfl | e
    · exact h.rG hg
    · exact h.aG g e hg
  refine ⟨hd, hb.cell h.b0 hRB, ⟨cap, xs, hb.cell h1 hRB, h2, h3.chg hb hga hx, fun x hx' g hg => ⟨fun e => ?_, (h4 x hx' g hg).2⟩⟩, fun k => by rw [World.frozen?_of_block (hb.block RB h.lt hRB)]; exact h.free k, h.neR, fun e => ?_, h.neG, h.rG, fun g hg e => ?_, h.base⟩
  · unfold bkM at e
    have h4' := (h4 x hx' g hg).1
    have hlt := (h3.far x hx' g hg).2
    unfold bkM at h4'
    simp only [List.mem_cons, List.mem_append, not_or] at e h4'
    rcases e with e | e | e | e
    · exact h4'.1 e
    · exact h4'.2.1 e
    · rcases hw.old g e with e | e
      · exact h4'.2.2.1 e
      · omega
    · exact h4'.2.2.2 e
  · rcases hw.old RB e with e | e
    · exact h.neA e
    · have := h.lt; omega
  · rcases hw.old g hg with h5 | h5
    · exact h.aG g h5 e
    · have := (h3.lt e).2; omega

theorem Bk.wroteMv {w w' : World} {base RB R : Nat} {a a' ga : Option Addr} {s : DS} {cs : List (List Nat)} {F : List Nat} (_ : Bk w base RB R a ga s cs F) (hb : Chg (R :: blk a) w w') (hw : Went w a a') : Mv w w' (bkM RB R a ga) (bkM RB R a' ga) := by
  refine ⟨hb.mono fun g hg => ?_, fun g hg => ?_⟩
  · unfold bkM
    simp only [List.mem_cons, List.mem_append] at hg ⊢
    rcases hg with e | e
    · exact .inr (.inl e)
    · exact .inr (.inr (.inl e))
  · unfold bkM at hg ⊢
    simp only [List.mem_cons, List.mem_append] at hg ⊢
    rcases hg with e | e | e | e
    · exact .inl (.inl e)
    · exact .inl (.inr (.inl e))
    · rcases hw.old g e with e | e
      · exact .inl (.inr (.inr (.inl e)))
      · exact .inr e
    · exact .inl (.inr (.inr (.inr e)))

/-- Blocks turn that are none of the book's. -/
theorem Bk.apart {w w' : World} {base RB R : Nat} {a ga : Option Addr} {s : DS} {cs : List (List Nat)} {F : List Nat} {gs : List Nat} (h : Bk w base RB R a ga s cs F) (hb : Chg gs w w') (hn : ∀ g ∈ gs, g ∉ bkM RB R a ga ∧ g ∉ F) : Bk w' base RB R a ga s cs F := by
  obtain ⟨cap, xs, h1, h2, h3, h4⟩ := h.rows
  have key : ∀ g ∈ bkM RB R a ga, g ∉ gs := fun g hg e => (hn g e).1 hg
  have kRB : RB ∉ gs := key RB (by simp [bkM])
  have kR : R ∉ gs := key R (by simp [bkM])
  exact ⟨h.dsk.chg hb kR (fun g hg => key g (by unfold bkM; simp [hg])), hb.cell h.b0 kRB, ⟨cap, xs, hb.cell h1 kRB, h2, h3.chg hb (fun g hg => key g (by unfold bkM; simp [hg])) (fun x hx g hg e => (hn g e).2 (h4 x hx g hg).2), h4⟩, fun k => by rw [World.frozen?_of_block (hb.block RB h.lt kRB)]; exact h.free k, h.neR, h.neA, h.neG, h.rG, h.aG, h.base⟩

theorem rws_base {w : World} {b b' cap : Nat} {ga : Option Addr} {xs : List Rw} (h : Rws w b ga cap xs) (hb : b' ≤ b) : Rws w b' ga cap xs := ⟨owns_base h.own hb, h.seen, h.far⟩

/-- The encodings are other ones now. -/
theorem Bk.put {w w2 : World} {base RB R : Nat} {a ga ga' : Option Addr} {s : DS} {cs : List (List Nat)} {F : List Nat} (h : Bk w base RB R a ga s cs F) {gs : List Nat} (hb : Chg gs w w2) (hgs : ∀ g ∈ gs, g ∈ blk ga) {cap' n : Nat} {xs : List Rw} (hr : Rws w2 base ga' cap' xs)
    (hat : ∀ g ∈ blk ga', g ∈ blk ga ∨ w.heap.size ≤ g) (hx : ∀ x ∈ xs, ∀ g ∈ blk x.loc, g ∉ RB :: R :: blk a) (hn : xs.length = n) (F' : List Nat) (hF : ∀ x ∈ xs, ∀ g ∈ blk x.loc, g ∈ F') : Bk (w2.setCell ⟨RB, 1, none⟩ (.slice ga' n cap')) base RB R a ga' s (xs.map Rw.ps) F' ∧ Mv w (w2.setCell ⟨RB, 1, none⟩ (.slice ga' n cap')) (bkM RB R a ga) (bkM RB R a ga') := by
  subst hn
  obtain ⟨cap, ys, h1, h2, h3, h4⟩ := h.rows
  have hRBg : RB ∉ gs := fun e => h.neG (hgs _ e)
  have hRg : R ∉ gs := fun e => h.rG (hgs _ e)
  have hag : ∀ g ∈ blk a, g ∉ gs := fun g hg e => h.aG g hg (hgs _ e)
  have hRBga' : RB ∉ blk ga' := fun e => by
    rcases hat RB e with e | e
    · exact h.neG e
    · have := h.lt; omega
  have hc1 := chg_set1 w2 RB 1 (.slice ga' xs.length cap')
  have hlt2 : RB < w2.heap.size := Nat.lt_of_lt_of_le h.lt hb.size
  refine ⟨⟨(h.dsk.chg hb hRg hag).chg hc1 (by simp; exact fun e => h.neR e.symm) (fun g hg e => h.neA (by simp at e; exact e ▸ hg)), ?_, ⟨cap', xs, World.cell?_setCell_same _ _ _ (hb.cell h1 hRBg), rfl, hr.chg hc1 (fun g hg e => hRBga' (by simp at e; exact e ▸ hg)) (fun x hx' g hg e => hx x hx' g hg (by simp at e; simp [e])), fun x hx' g hg => ⟨fun e => ?_, hF x hx' g hg⟩⟩, fun k => ?_, h.neR, h.neA, hRBga', fun e => ?_, fun g hg e => ?_, h.base⟩, ⟨?_, fun g hg => ?_⟩⟩
  · rw [World.cell?_setCell_other _ _ _ _ (by simp)]
    exact hb.cell h.b0 hRBg
  · have h6 := hx x hx' g hg
    have h7 := (hr.far x hx' g hg).1
    unfold bkM at e
    simp only [List.mem_cons, List.mem_append, not_or] at e h6
    rcases e with e | e | e | e
    · exact h6.1 e
    · exact h6.2.1 e
    · exact h6.2.2 e
    · exact h7 e
  · rw [World.frozen?_setCell, World.frozen?_of_block (hb.block RB h.lt hRBg)]
    exact h.free k
  · rcases hat R e with e | e
    · exact h.rG e
    · have := h.dsk.lt; omega
  · rcases hat g e with e | e
    · exact h.aG g hg e
    · have := (h.dsk.blkLt hg).2; omega
  · refine (hb.mono fun g hg => ?_).trans (hc1.mono fun g hg => ?_)
    · unfold bkM; simp only [List.mem_cons, List.mem_append]; exact .inr (.inr (.inr (hgs g hg)))
    · unfold bkM; simp at hg; simp [hg]
  · unfold bkM at hg ⊢
    simp only [List.mem_cons, List.mem_append] at hg ⊢
    rcases hg with e | e | e | e
    · exact .inl (.inl e)
    · exact .inl (.inr (.inl e))
    · exact .inl (.inr (.inr (.inl e)))
    · rcases hat g e with e | e
      · exact .inl (.inr (.inr (.inr e)))
      · exact .inr e

end Go.Proofs.YtdgpbdedaafdiaaGreat
