/-
  What a call of the laws' does to a store's state, in plain words.
-/
import Derived.Test.YtdgpbdedaafdiaaLw14
namespace Go.Proofs.Ytdgpbdedaafdiaa
open Go.RowKit

/-- The staged epoch is above the current one. -/
def Abv (s : Ss) : Prop := s.staged.epoch ≠ 0 → s.now.epoch < s.staged.epoch

theorem abv0 : Abv ss0 := fun h => absurd rfl h

/-- The state behind a record that has been written, or not. -/
theorem runS_nxt {rs : List Pr} {s : Ss} (h : runS rs = s) (r : Pr) (rep : Bool) (n : Int) (h4 : rep = true → r.kind = 4) : runS (nxt rs r rep n) = if n = 0 then appS s r else s := by
  by_cases hn : n = 0
  · rw [if_pos hn]
    cases rep
    · rw [nxt_app _ _ _ hn, runS_snoc, h]
    · rw [nxt_rep _ _ _ hn, runS_four r (h4 rfl), appS_four (h4 rfl)]
  · rw [if_neg hn, nxt_no _ _ _ _ hn, h]

/-- Its states: p, with answer n, behind s. -/
structure Rise (s : Ss) (n : Int) (t : Ss) : Prop where
  up : s.now.epoch ≤ t.now.epoch
  ents : t.now.epoch = s.now.epoch → t.now.ents = s.now.ents ∨ (s.sealed = false ∧ ∃ e, t.now.ents = s.now.ents ++ [e] ∧ e.seq = lastS s + 1)
  sld : t.now.epoch = s.now.epoch → s.sealed = true → t.sealed = true
  no : n ≠ 0 → t = s
  abv : Abv t

theorem rise_same {s : Ss} (n : Int) (h : Abv s) : Rise s n s := ⟨Int.le_refl _, fun _ => .inl rfl, fun _ h => h, fun _ => rfl, h⟩

theorem rise_act {d : DS} {rs : List Pr} {s : Ss} (h : runS rs = s) (ha : Abv s) (pre : Option Int) (r : Pr) (rep : Bool) (h4 : rep = true → r.kind = 4) (hr : pre = none → Rise s 0 (appS s r)) :
    Rise s (act d rs pre r rep).1.1 (runS (act d rs pre r rep).2) := by
  cases pre with
  | some n =>
    show Rise s n (runS rs)
    rw [h]
    exact rise_same n ha
  | none =>
    show Rise s (wq d r rep).1 (runS (nxt rs r rep (wq d r rep).1))
    rw [runS_nxt h r rep _ h4]
    by_cases hn : (wq d r rep).1 = 0
    · rw [if_pos hn, hn]
      exact hr rfl
    · rw [if_neg hn]
      exact rise_same _ ha

theorem rise_doA {d : DS} {rs : List Pr} {s : Ss} (h : runS rs = s) (ha : Abv s) (y : As) : Rise s (doA d rs s y).1.1 (runS (doA d rs s y).2) := by
  unfold doA
  by_cases h0 : y.what = 0
  · rw [if_pos h0]
    refine rise_act h ha _ _ _ (fun e => by cases e) fun hp => ?_
    unfold preLog at hp
    split at hp
    · cases hp
    · rename_i hne
      split at hp
      · cases hp
      · rename_i hq
        have hq' : y.e.seq = lastS s + 1 := Decidable.byContradiction hq
        have hs : s.sealed = false := by
          cases hh : s.sealed
          · rfl
          · exact absurd (.inr hh) hne
        rw [appS_one rfl]
        exact ⟨Int.le_refl _, fun _ => .inr ⟨hs, y.e, rfl, hq'⟩, fun _ e => e, fun e => absurd rfl e, ha⟩
  · rw [if_neg h0]
    by_cases h1 : y.what = 1
    · rw [if_pos h1]
      refine rise_act h ha _ _ _ (fun e => by cases e) fun _ => ?_
      rw [appS_two rfl]
      exact ⟨Int.le_refl _, fun _ => .inl rfl, fun _ _ => rfl, fun e => absurd rfl e, ha⟩
    · rw [if_neg h1]
      by_cases h2 : y.what = 2
      · rw [if_pos h2]
        refine rise_act h ha _ _ _ (fun e => by cases e) fun hp => ?_
        unfold preStage at hp
        split at hp
        · cases hp
        · rename_i hq
          rw [appS_three rfl]
          exact ⟨Int.le_refl _, fun _ => .inl rfl, fun _ e => e, fun e => absurd rfl e, fun _ => by
            show s.now.epoch < y.r.epoch
            omega⟩
      · rw [if_neg h2]
        by_cases h3 : y.what = 3
        · rw [if_pos h3]
          refine rise_act h ha _ _ _ (fun _ => rfl) fun hp => ?_
          unfold preActivate at hp
          split at hp
          · cases hp
          · rename_i hq
            rw [appS_four rfl]
            have hst : s.staged.epoch ≠ 0 := by omega
            have hlt := ha hst
            refine ⟨by show s.now.epoch ≤ s.staged.epoch; omega, fun e => ?_, fun e => ?_, fun e => absurd rfl e, fun e => absurd rfl e⟩
            · exact absurd (show s.staged.epoch = s.now.epoch from e) (by omega)
            · exact absurd (show s.staged.epoch = s.now.epoch from e) (by omega)
        · rw [if_neg h3]
          refine rise_act h ha _ _ _ (fun _ => rfl) fun hp => ?_
          unfold preBegin at hp
          split at hp
          · cases hp
          · rename_i hq
            rw [appS_four rfl]
            refine ⟨by show s.now.epoch ≤ y.r.epoch; omega, fun e => ?_, fun e => ?_, fun e => absurd rfl e, fun e => absurd rfl e⟩
            · exact absurd (show y.r.epoch = s.now.epoch from e) (by omega)
            · exact absurd (show y.r.epoch = s.now.epoch from e) (by omega)

end Go.Proofs.Ytdgpbdedaafdiaa
