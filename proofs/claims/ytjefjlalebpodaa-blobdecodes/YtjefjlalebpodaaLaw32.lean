/-
  Layer 3: the laws' fixed fact 'awake': it is true, and nothing that was there is changed.
  The walk of the law RsCodes.
  The walk of the law RsEncodes.
-/
import Derived.Test.YtjefjlalebpodaaWalksS5
import Derived.Test.YtjefjlalebpodaaWalksS1
import Derived.Test.YtjefjlalebpodaaWalksT1
namespace Go.Proofs.Ytjefjlalebpodaa
open Go.RowKit

/-- The two shards of the fixed fact. -/
def sh2 : List (List Nat) := [[1, 2], [3, 4]]
theorem by_sh2 : Mt.By sh2 := by
  intro i
  match i with
  | 0 => intro c hc; simp [sh2] at hc; omega
  | 1 => intro c hc; simp [sh2] at hc; omega
  | i + 2 => intro c hc; simp [sh2] at hc
theorem ev_sh2 : Ev sh2 := by
  intro i hi
  match i, hi with
  | 0, _ => rfl
  | 1, _ => rfl
  | i + 2, hi => simp [sh2] at hi; omega
theorem frag_sh2_len (p : Nat) : (frag sh2 p).length = 2 := by rw [frag_len]; rfl
theorem frag_sh2_0 : frag sh2 0 = [1, 2] := frag_first sh2 0 (by decide) (by decide) rfl by_sh2
theorem strB_12 : strB [1, 2] = ⟨#[1, 2]⟩ := rfl

theorem frs_two (w : World) (p q : Int) (a1 a2 : Option Addr) (c1 c2 : Nat) (d1 d2 : List Nat) (h1 : SeenAt w a1 c1 d1) (h2 : SeenAt w a2 c2 d2) (hp : (Lit.int .i64 p).wf = true) (hq : (Lit.int .i64 q).wf = true) :
    FrsAt (w.alloc (.cells #[.int .i64 p, .slice a1 d1.length c1, .int .i64 q, .slice a2 d2.length c2] 52)) (some ⟨w.heap.size, 0, none⟩) 2 [⟨p, a1, c1, d1⟩, ⟨q, a2, c2, d2⟩] where
  le := by simp
  max := by unfold maxLen; omega
  el i hi := by
    match i, hi with
    | 0, _ => exact ⟨w.heap.size, 0, rfl, by rw [World.cell?_alloc_at (hn := rfl)]; rfl, by rw [World.cell?_alloc_at (hn := rfl)]; rfl, h1.below (below_one _ _)⟩
    | 1, _ => exact ⟨w.heap.size, 0, rfl, by rw [World.cell?_alloc_at (hn := rfl)]; rfl, by rw [World.cell?_alloc_at (hn := rfl)]; rfl, h2.below (below_one _ _)⟩
    | i + 2, hi => simp at hi; omega
  wf f hf := by
    simp at hf
    rcases hf with rfl | rfl
    · exact hp
    · exact hq

theorem firsts_two (f g : Fr) (h : f.pos ≠ g.pos) : firsts [f, g] = [f, g] := by
  have : ¬ f.pos = g.pos := h
  have h2 : ¬ g.pos = f.pos := fun e => h e.symm
  simp [firsts, fst1, h2]

/-- The fragments of the fixed fact, at 3 and 2. -/
theorem awake_back (a1 a2 : Option Addr) (c1 c2 : Nat) : let fs := [(⟨3, a1, c1, frag sh2 3⟩ : Fr), ⟨2, a2, c2, frag sh2 2⟩]
    Good 4 fs ∧ (firsts fs).length = 2 ∧ ∀ S, Mt.By (dats fs) → Behind 2 4 ((firsts fs).take 2) S → S = sh2 := by
  have hf : firsts [(⟨3, a1, c1, frag sh2 3⟩ : Fr), ⟨2, a2, c2, frag sh2 2⟩] = [⟨3, a1, c1, frag sh2 3⟩, ⟨2, a2, c2, frag sh2 2⟩] := firsts_two _ _ (by show (3 : Int) ≠ 2; decide)
  have hg : Good 4 [(⟨3, a1, c1, frag sh2 3⟩ : Fr), ⟨2, a2, c2, frag sh2 2⟩] := by
    intro i hi
    match i, hi with
    | 0, _ => exact ⟨by show (0 : Int) ≤ 3 ∧ (3 : Int) < 4; decide, rfl⟩
    | 1, _ => exact ⟨by show (0 : Int) ≤ 2 ∧ (2 : Int) < 4; decide, (frag_sh2_len 2).trans (frag_sh2_len 3).symm⟩
    | i + 2, hi => simp at hi; omega
  refine ⟨hg, by rw [hf]; rfl, fun S bd hB => ?_⟩
  have hc := chosen_of (k := 2) hg (by rw [hf]; simp)
  rw [hf] at hB hc
  refine hB.only hc (by decide) bd rfl (fun i hi => ?_) by_sh2 (fun i hi => ?_)
  · show _ = (frag sh2 3).length
    rw [frag_sh2_len]
    match i, hi with
    | 0, _ => rfl
    | 1, _ => rfl
  · match i, hi with
    | 0, _ => rfl
    | 1, _ => rfl

end Go.Proofs.Ytjefjlalebpodaa

namespace Go.Proofs.Ytjefjlalebpodaa
open Go.RowKit

theorem quiet_more {P : Program} {f : FuncId} {args : Array Value} {w : World} {n : Nat} {v : Value}
    (h : Calls P f args (w.drewN n) fun e w' => e = .returned v ∧ ∃ m, w' = (w.drewN n).drewN m) : Calls P f args (w.drewN n) fun e w'' => e = .returned v ∧ ∃ m, w'' = w.drewN m :=
  h.mono fun _ _ ⟨h1, m, h2⟩ => ⟨h1, n + m, by rw [h2, World.drewN_drewN]⟩

theorem unitv_set (k i : Nat) (hi : i < k) : (List.replicate k 0).set i 1 = unitv k i := by
  refine getD_congr _ _ 0 (by simp [unitv]) fun j hj => ?_
  have hj' : j < k := by simpa using hj
  rw [unitv_get k i j hj']
  by_cases e : j = i
  · subst e; rw [getD_set_eq _ _ _ _ (by simpa using hj'), if_pos rfl]
  · rw [getD_set_ne _ _ _ _ _ e, getD_rep _ _ _ _ hj', if_neg e]

theorem wf_sub {x : Int} (h1 : -9223372036854775808 ≤ x) (h2 : x ≤ 9223372036854775807) : (Lit.int .i64 x).wf = true := by
  simp [Lit.wf, IntKind.min, IntKind.max, IntKind.signed, IntKind.bits]
  omega





end Go.Proofs.Ytjefjlalebpodaa

namespace Go.Proofs.Ytjefjlalebpodaa
open Go.RowKit





theorem cutM_le (m : List (List Nat)) (k : Nat) : (cutM m k).length ≤ k := by rw [cutM_len]; omega

end Go.Proofs.Ytjefjlalebpodaa
