/-
  A polynomial over GF(256) with as many unlike roots as it has coefficients is zero; rows of powers hang together only if two are alike.
-/
import Derived.Test.YtnhledngeicekaaMatC
namespace Go.Proofs.Ytnhledngeicekaa.Mt
open Go.Proofs.Ytnhledngeicekaa

/-- What is left of p behind division by (x - r). -/
def sd : List Nat → Nat → List Nat
  | [], _ => []
  | [_], _ => []
  | _ :: d :: p, r => Gf.eval (d :: p) r :: sd (d :: p) r

theorem sd_len : ∀ (p : List Nat) (r : Nat), (sd p r).length = p.length - 1
  | [], _ => rfl
  | [_], _ => rfl
  | _ :: d :: p, r => by simp [sd, sd_len (d :: p) r]

theorem sd_bytes : ∀ (p : List Nat) (r : Nat), Gf.Bytes p → Gf.Bytes (sd p r)
  | [], _, h => h
  | [_], _, _ => by intro c hc; simp [sd] at hc
  | _ :: d :: p, r, h => by
    have h' : Gf.Bytes (d :: p) := fun x hx => h x (List.mem_cons_of_mem _ hx)
    intro c hc
    rcases List.mem_cons.mp hc with rfl | hc
    · exact Gf.eval_lt _ _ h'
    · exact sd_bytes (d :: p) r h' c hc

theorem sd_eval : ∀ (p : List Nat) (r x : Nat), Gf.Bytes p → r < 256 → x < 256 → Gf.eval p x = Gf.gm (Gf.eval (sd p r) x) (x ^^^ r) ^^^ Gf.eval p r
  | [], r, x, _, _, _ => by simp [sd, Gf.eval_nil, Gf.zero_gm]
  | [c], r, x, _, _, _ => by simp [sd, Gf.eval_cons, Gf.eval_nil, Gf.zero_gm]
  | c :: d :: p, r, x, h, hr, hx => by
    have h' : Gf.Bytes (d :: p) := fun y hy => h y (List.mem_cons_of_mem _ hy)
    have ih := sd_eval (d :: p) r x h' hr hx
    have hq := Gf.eval_lt (sd (d :: p) r) x (sd_bytes _ r h')
    have he := Gf.eval_lt (d :: p) r h'
    have hxr := Gf.x_lt x r hx hr
    rw [Gf.eval_cons c (d :: p) x, Gf.eval_cons c (d :: p) r, ih]
    show _ = Gf.gm (Gf.eval (Gf.eval (d :: p) r :: sd (d :: p) r) x) (x ^^^ r) ^^^ _
    rw [Gf.eval_cons (Gf.eval (d :: p) r) (sd (d :: p) r) x]
    generalize Gf.eval (d :: p) r = e at *
    generalize Gf.eval (sd (d :: p) r) x = q at *
    rw [Gf.add_gm, Gf.add_gm (Gf.gm q x) e (x ^^^ r), Gf.gm_add e x r]
    rw [Gf.gm_assoc q (x ^^^ r) x hq hxr hx, Gf.gm_comm (x ^^^ r) x hxr hx, ← Gf.gm_assoc q x (x ^^^ r) hq hx hxr]
    have : ∀ a b c d : Nat, (a ^^^ b) ^^^ c = (a ^^^ (b ^^^ d)) ^^^ (d ^^^ c) := by
      intro a b c d
      have e1 : (a ^^^ (b ^^^ d)) ^^^ (d ^^^ c) = (a ^^^ b) ^^^ ((d ^^^ d) ^^^ c) := by ac_rfl
      rw [e1, Nat.xor_self, Nat.zero_xor]
    exact this _ _ _ _

theorem sd_zero : ∀ (p : List Nat) (r : Nat), Gf.eval p r = 0 → (∀ c ∈ sd p r, c = 0) → ∀ c ∈ p, c = 0
  | [], _, _, _ => by intro c hc; simp at hc
  | [c], r, h, _ => by
    intro x hx
    obtain rfl : x = c := by simpa using hx
    simpa [Gf.eval_cons, Gf.eval_nil, Gf.zero_gm] using h
  | c :: d :: p, r, h, hz => by
    have h1 : Gf.eval (d :: p) r = 0 := hz _ (by simp [sd])
    have ih := sd_zero (d :: p) r h1 (fun x hx => hz x (by simp [sd]; exact .inr hx))
    rw [Gf.eval_cons, h1, Gf.zero_gm, Nat.zero_xor] at h
    intro x hx
    rcases List.mem_cons.mp hx with rfl | hx
    · exact h
    · exact ih x hx

/-- As many unlike roots as coefficients: all of them are zero. -/
theorem roots : ∀ (ks p : List Nat), Gf.Bytes p → Gf.Bytes ks → ks.Nodup → p.length ≤ ks.length → (∀ k ∈ ks, Gf.eval p k = 0) → ∀ c ∈ p, c = 0
  | [], p, _, _, _, hl, _ => by
    have : p = [] := by simpa using hl
    subst this
    intro c hc; simp at hc
  | r :: ks, p, hp, hk, hd, hl, h => by
    have hr := hk r (List.mem_cons_self ..)
    have h0 := h r (List.mem_cons_self ..)
    obtain ⟨hnr, hd'⟩ := List.nodup_cons.mp hd
    refine sd_zero p r h0 ?_
    refine roots ks (sd p r) (sd_bytes p r hp) (fun x hx => hk x (List.mem_cons_of_mem _ hx)) hd' (by rw [sd_len]; simp at hl; omega) fun k hks => ?_
    have hkb := hk k (List.mem_cons_of_mem _ hks)
    have e := sd_eval p r k hp hr hkb
    rw [h k (List.mem_cons_of_mem _ hks), h0, Nat.xor_zero] at e
    have hne : k ^^^ r ≠ 0 := fun e' => hnr (by rw [(xor_zero_iff k r).mp e'] at hks; exact hks)
    exact Classical.byContradiction fun hq => Gf.gm_ne _ _ hq hne (Gf.eval_lt _ _ (sd_bytes p r hp)) (Gf.x_lt _ _ hkb hr) e.symm

/-- Horner's value is the sum of the terms. -/
theorem eval_xs (n k : Nat) (x : Nat → Nat) (hx : ∀ j, x j < 256) (hk : k < 256) : Gf.eval ((List.range n).map x) k = xs n fun j => Gf.gm (x j) (Gf.ipow k j) := by
  induction n with
  | zero => rfl
  | succ n ih =>
    rw [List.range_succ, List.map_append, List.map_singleton, Gf.eval_snoc _ _ _ (fun c hc => by obtain ⟨j, _, rfl⟩ := List.mem_map.mp hc; exact hx j) (hx n) hk, ih, List.length_map, List.length_range]
    rfl

end Go.Proofs.Ytnhledngeicekaa.Mt
