/-
  What the laws of layer 14 know of a store's state; a call of theirs.
-/
import Derived.Test.YtdgpbdedaafdiaaGreatAwake14
import Derived.Test.YtdgpbdedaafdiaaGreatSameA
namespace Go.Proofs.YtdgpbdedaafdiaaGreat
open Go.RowKit

theorem appS_mem {s : Ss} {r : Pr} (hr : Gr r) (h : s.now.mem.length ≤ 16) : (appS s r).now.mem.length ≤ 16 := by
  have h1 := (sndR_lens r hr.snd).1
  unfold appS
  repeat' split
  all_goals first | exact h | exact h1

theorem foldS_mem : ∀ (rs : List Pr) (s : Ss), s.now.mem.length ≤ 16 → (∀ r ∈ rs, Gr r) → (rs.foldl appS s).now.mem.length ≤ 16
  | [], _, h, _ => h
  | r :: rs, s, h, hr => foldS_mem rs (appS s r) (appS_mem (hr r (by simp)) h) (fun x hx => hr x (List.mem_cons_of_mem _ hx))

section
variable {w0 w w' : World} {base SB R : Nat} {M : List Nat} {d : DS} {rs : List Pr} {s : Ss} {e : Ending}

theorem So.mem (h : So w base SB R M d rs s) : s.now.mem.length ≤ 16 := by
  rw [← h.1]
  exact foldS_mem rs ss0 (Nat.zero_le _) h.2.1

theorem Ss.Ok.frag (h : s.Ok) : ∀ e ∈ s.now.ents, e.frag.length ≤ 1000000000 := fun e he => by
  have := (sndE_lens e (h.ents e he)).2
  omega

theorem Ss.Ok.small (h : s.Ok) : ∀ e ∈ s.now.ents, e.key.length ≤ 1048576 ∧ e.frag.length ≤ 1048576 := fun e he => by
  have := sndE_lens e (h.ents e he)
  omega

/-- The law's call, in step. -/
theorem RetMu.step {y : As} (hE : Ext w0 w) (h : So w w0.heap.size SB R M d rs s) (hp : Stp d rs) (hr : RetMu w w0.heap.size SB R M (doA d rs s y).1 (doA d rs s y).2 e w') :
    e = .returned (.int .i64 (doA d rs s y).1.1) ∧ Ext w0 w' ∧ ∃ M', So w' w0.heap.size SB R M' (doA d rs s y).1.2 (doA d rs s y).2 (runS (doA d rs s y).2) ∧ Stp (doA d rs s y).1.2 (doA d rs s y).2 ∧ (doA d rs s y).2.length ≤ rs.length + 1 := by
  obtain ⟨h1, M', h2, h3⟩ := hr
  exact ⟨h1, (h3.below hE fun g hg => (h.mLt hg).1).1, M', h2, stp_doA hp s y, len_doA d rs s y⟩

/-- An argument of the law is read whatever its own memory turns to. -/
theorem Acts14.kp {a : Option Addr} {cap : Nat} {es : List As} {y : As} (ha : Acts14 w0 a cap es) (hy : y ∈ es) (hE : Ext w0 w) (hM : ∀ g ∈ M, w0.heap.size ≤ g) : Kp M w fun x => AsAt x y :=
  kp_old (fun _ hb => (ha.at_ y hy).below hb) hE hM

end

end Go.Proofs.YtdgpbdedaafdiaaGreat
