/-
  What is known of an argument that is a slice of acts.
-/
import Derived.Test.YtfkknggjnbjnjaaArgC
import Derived.Deep.Slices
namespace Go.Proofs.Ytfkknggjnbjnjaa
open Go.ChangeShapes Go.WideShapes Go.ChangeAt Go.RowKit

/-- What happens to a disk. -/
structure Ac where
  what : Int
  n : Int
  bs : List Nat

def ac0 : Ac := ⟨0, 0, []⟩

/-- The cells behind the address a hold the acts. -/
structure ActsAt (w : World) (a : Option Addr) (cap : Nat) (es : List Ac) : Prop where
  le : es.length ≤ cap
  max : cap ≤ maxLen
  cell : ∀ i, i < es.length → ∃ b off loc c, a = some ⟨b, off, none⟩ ∧ w.cell? ⟨b, off + i * 3, none⟩ = some (.int .i64 (es.getD i ac0).what) ∧ w.cell? ⟨b, off + i * 3 + 1, none⟩ = some (.int .i64 (es.getD i ac0).n)
    ∧ w.cell? ⟨b, off + i * 3 + 2, none⟩ = some (.slice loc (es.getD i ac0).bs.length c) ∧ SeenAt w loc c (es.getD i ac0).bs
  wf : ∀ i, i < es.length → (Lit.int .i64 (es.getD i ac0).what).wf = true ∧ (Lit.int .i64 (es.getD i ac0).n).wf = true

theorem ActsAt.nil {w : World} {a : Option Addr} {cap : Nat} (h : cap ≤ maxLen) : ActsAt w a cap [] := ⟨Nat.zero_le _, h, fun i hi => by simp at hi, fun i hi => by simp at hi⟩

theorem c_intA : Try.prog.cellsOf 3 = 1 := by kernel_rfl
theorem c_rowA : Try.prog.cellsOf 25 = 1 := by kernel_rfl
theorem c_act : Try.prog.cellsOf 27 = 3 := by kernel_rfl

section
variable {H : Type} {enc : TypeId × Value → H} {W : World}

/-- The cells of an act. -/
theorem act_cells {fuel : Nat} {cs : List Value} {x : DataW H × List MemPlace} (h : DataW.trod enc Try.prog W 0 (fun _ => true) true fuel 27 cs = some x) :
    ∃ (p : Ac) (loc : Option Addr) (c : Nat), cs = [.int .i64 p.what, .int .i64 p.n, .slice loc p.bs.length c] ∧ SeenAt W loc c p.bs ∧ (Lit.int .i64 p.what).wf = true ∧ (Lit.int .i64 p.n).wf = true := by
  obtain ⟨xs, n, _, _, hl, hxl, hf⟩ := DataW.trod_struct Try.underlying27 h
  rw [c_act] at hl
  match xs, hxl, cs, hl with
  | [y0, y1, y2], _, [v0, v1, v2], _ =>
    have g0 := hf 0 _ rfl
    have g1 := hf 1 _ rfl
    have g2 := hf 2 _ rfl
    simp [c_intA, c_rowA] at g0 g1 g2
    obtain ⟨z0, e0, _, w0⟩ := DataW.trod_int Try.underlying3 g0
    obtain ⟨z1, e1, _, w1⟩ := DataW.trod_int Try.underlying3 g1
    obtain ⟨a, c, qs, e2, hs⟩ := seen_cell g2
    simp at e0 e1
    subst e0 e1 e2
    exact ⟨⟨z0, z1, qs⟩, a, c, rfl, hs, w0, w1⟩

theorem pick_acts {P : Nat → Ac → Prop} : ∀ n : Nat, (∀ i, i < n → ∃ f, P i f) → ∃ fs : List Ac, fs.length = n ∧ ∀ i, i < n → P i (fs.getD i ac0)
  | 0, _ => ⟨[], rfl, fun i hi => by omega⟩
  | n + 1, h => by
    obtain ⟨fs, hl, hf⟩ := pick_acts n fun i hi => h i (by omega)
    obtain ⟨f, hn⟩ := h n (by omega)
    refine ⟨fs ++ [f], by simp [hl], fun i hi => ?_⟩
    by_cases e : i = n
    · have e1 := getD_app_eq fs f ac0
      rw [hl] at e1
      rw [e, e1]; exact hn
    · rw [getD_app_lt fs f ac0 i (by omega)]; exact hf i (by omega)

/-- An argument that is a slice of acts. -/
theorem acts_arg {a : Option Addr} {len cap : Nat} {d : DataW H} {ps : List MemPlace} (h : DataW.Trod enc Try.prog W 0 (fun _ => true) true 22 (.slice a len cap) d ps) :
    ∃ es : List Ac, es.length = len ∧ ActsAt W a cap es := by
  obtain ⟨fuel, hf⟩ := h
  rcases Go.Deep.open_slice Try.underlying22 hf with ⟨hcs, _⟩ | ⟨ad, l, c, m, n, D, Pl, hcs, _, hl, hm, hmm, _, hel⟩
  · simp [Value.cells] at hcs
    obtain ⟨rfl, rfl, rfl⟩ := hcs
    exact ⟨[], rfl, ActsAt.nil (Nat.zero_le _)⟩
  · simp [Value.cells] at hcs
    obtain ⟨rfl, rfl, rfl⟩ := hcs
    have hmc : m = cap := by simpa using hmm
    subst hmc
    have each : ∀ i, i < len → ∃ p : Ac, ((Lit.int .i64 p.what).wf = true ∧ (Lit.int .i64 p.n).wf = true) ∧ ∃ loc c, SeenAt W loc c p.bs ∧ ∀ k u, [Value.int .i64 p.what, .int .i64 p.n, .slice loc p.bs.length c][k]? = some u → W.cell? (ad.add (i * 3 + k)) = some u := by
      intro i hi
      obtain ⟨cs, hc, ht⟩ := hel i (by omega)
      rw [c_act] at hc
      obtain ⟨p, loc, c, rfl, hs, hw⟩ := act_cells ht
      obtain ⟨_, _, hcell⟩ := World.cells?_some hc
      refine ⟨p, hw, loc, c, hs, fun k u hk => ?_⟩
      have hk8 : k < 3 := by
        have := (List.getElem?_eq_some_iff.1 hk).1
        simpa using this
      have := hcell k hk8
      rw [hk, Go.Deep.add_add] at this
      exact this
    obtain ⟨es, hes, hE⟩ := pick_acts len each
    refine ⟨es, hes, ⟨by omega, hm, fun i hi => ?_, fun i hi => (hE i (by omega)).1⟩⟩
    obtain ⟨_, loc, c, hs, hk⟩ := hE i (by omega)
    obtain ⟨b, off, rfl⟩ : ∃ b off, ad = ⟨b, off, none⟩ := by
      obtain ⟨_, _, _, _, hk0⟩ := hE 0 (by omega)
      exact addr_of (hk0 0 _ rfl)
    have hk' : ∀ k u, [Value.int .i64 (es.getD i ac0).what, .int .i64 (es.getD i ac0).n, .slice loc (es.getD i ac0).bs.length c][k]? = some u → W.cell? ⟨b, off + i * 3 + k, none⟩ = some u := fun k u h' => by
      have := hk k u h'
      rw [Go.WideShapes.add_plain, ← Nat.add_assoc] at this
      exact this
    exact ⟨b, off, loc, c, rfl, hk' 0 _ rfl, hk' 1 _ rfl, hk' 2 _ rfl, hs⟩

end

end Go.Proofs.Ytfkknggjnbjnjaa
