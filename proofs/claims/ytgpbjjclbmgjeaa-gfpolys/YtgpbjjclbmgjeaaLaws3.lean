/-
  The walk of the law GfEvals.
-/
import Derived.Test.YtgpbjjclbmgjeaaLaws1
import Derived.OpenShut
namespace Go.Proofs.Ytgpbjjclbmgjeaa
open Go.RowKit

/-- What is known of a slice of integers that came in: nil, or a row of 'cap' cells that hold zs, the first 'len' its elements. -/
def IsRow (k : IntKind) (w : World) (a : Option Addr) (len cap : Nat) (zs : List Int) : Prop :=
  (a = none ∧ len = 0 ∧ cap = 0 ∧ zs = []) ∨
  ∃ x, a = some x ∧ len ≤ cap ∧ cap ≤ maxLen ∧ zs.length = cap ∧ (∀ i, i < zs.length → w.cell? (x.add i) = some (.int k (zs.getD i 0))) ∧ ∀ n ∈ zs, (Lit.int k n).wf = true

/-- The first n bytes of a slice that came in, as plain numbers. -/
theorem row_of {w : World} {a : Option Addr} {len cap : Nat} {zs : List Int} (h : IsRow .u8 w a len cap zs) (n : Nat) (hn : n ≤ len) :
    ∃ ps : List Nat, ps.length = n ∧ Gf.Bytes ps ∧ (0 < n → ∃ b off, a = some ⟨b, off, none⟩ ∧ ∀ i, i < n → w.cell? ⟨b, off + i, none⟩ = some (.int .u8 ((ps.getD i 0 : Nat) : Int))) := by
  rcases h with ⟨_, h2, _, _⟩ | ⟨x, rfl, hl, hm, hz, hc, hw⟩
  · refine ⟨[], by simp; omega, by intro c hc; simp at hc, fun h => by omega⟩
  · refine ⟨(zs.take n).map Int.toNat, by simp; omega, ?_, ?_⟩
    · intro c hc'
      obtain ⟨z, hz', rfl⟩ := List.mem_map.mp hc'
      obtain ⟨m, hm', rfl⟩ := u8_nat (hw z (List.mem_of_mem_take hz'))
      simpa using hm'
    · intro h0
      obtain ⟨b, off, rfl, hcc⟩ := ints_at hc (by omega)
      refine ⟨b, off, rfl, fun i hi => ?_⟩
      rw [hcc i (by omega)]
      have hi' : i < zs.length := by omega
      obtain ⟨m, hm', he⟩ := u8_nat (hw (zs[i]) (List.getElem_mem _))
      have e1 : zs.getD i 0 = (m : Int) := by rw [List.getD_eq_getElem?_getD, List.getElem?_eq_getElem hi']; exact he
      have e2 : ((zs.take n).map Int.toNat).getD i 0 = m := by
        rw [List.getD_eq_getElem?_getD, List.getElem?_map, List.getElem?_take_of_lt hi, List.getElem?_eq_getElem hi']
        simp [he]
      rw [e1, e2]

theorem row_len {k : IntKind} {w : World} {a : Option Addr} {len cap : Nat} {zs : List Int} (h : IsRow k w a len cap zs) : len ≤ cap ∧ cap ≤ maxLen := by
  rcases h with ⟨_, h2, h3, _⟩ | ⟨x, _, hl, hm, _⟩
  · rw [h2, h3]; exact ⟨by omega, by unfold maxLen; omega⟩
  · exact ⟨hl, hm⟩

theorem take_snoc (ps : List Nat) (k : Nat) (h : k < ps.length) : ps.take (k + 1) = ps.take k ++ [ps.getD k 0] := by
  rw [List.take_succ_eq_append_getElem h, List.getD_eq_getElem?_getD, List.getElem?_eq_getElem h]; rfl

theorem bytes_take (ps : List Nat) (k : Nat) (h : Gf.Bytes ps) : Gf.Bytes (ps.take k) := fun c hc => h c (List.mem_of_mem_take hc)
theorem bytes_get (ps : List Nat) (k : Nat) (h : Gf.Bytes ps) : ps.getD k 0 < 256 := by
  rw [List.getD_eq_getElem?_getD]
  by_cases hk : k < ps.length
  · rw [List.getElem?_eq_getElem hk]; exact h _ (List.getElem_mem _)
  · rw [List.getElem?_eq_none (by omega)]; simp

theorem eval_step (ps : List Nat) (k x : Nat) (h : k < ps.length) (hB : Gf.Bytes ps) (hx : x < 256) :
    Gf.eval (ps.take (k + 1)) x = Gf.eval (ps.take k) x ^^^ Gf.gm (ps.getD k 0) (Gf.ipow x k) := by
  rw [take_snoc ps k h, Gf.eval_snoc _ _ _ (bytes_take ps k hB) (bytes_get ps k hB) hx, List.length_take, Nat.min_eq_left (by omega)]

theorem below_cells {w w' : World} {b off n : Nat} {f : Nat → Value} (hb : Below w.heap.size w w') (hc : ∀ i, i < n → w.cell? ⟨b, off + i, none⟩ = some (f i)) :
    ∀ i, i < n → w'.cell? ⟨b, off + i, none⟩ = some (f i) := fun i hi => cell_later hb (hc i hi)


set_option maxRecDepth 100000 in
set_option maxHeartbeats 1000000 in
theorem gfEvals_short (b off n cap x : Nat) (ps : List Nat) (w : World) (hL : ps.length = n) (hn : n ≤ 300) (hB : Gf.Bytes ps) (hx : x < 256)
    (hC : ∀ i, i < n → w.cell? ⟨b, off + i, none⟩ = some (.int .u8 ((ps.getD i 0 : Nat) : Int))) :
    Calls Try.prog 6 #[.slice (some ⟨b, off, none⟩) n cap, .int .u8 (x : Int)] w fun e w' => e = .returned (.bool true) ∧ Below w.heap.size w w' := by
  have HC := Lib.hid hC
  have HL := Lib.hid hL
  have HB := Lib.hid hB
  clear hC hL hB
  go_enter Try.func6, Try.ntmps6
  go_wp2
  go_loop [5, 6, 7] (fun o p i => ∃ k : Nat, k ≤ n ∧ i = .int .i64 k ∧ o = .int .u8 ((Gf.eval (ps.take k) x : Nat) : Int) ∧ p = .int .u8 ((Gf.ipow x k : Nat) : Int)) (fun _ _ i => n - (intOf i).toNat)
  case atStart => exact ⟨0, Nat.zero_le _, rfl, rfl, rfl⟩
  case round =>
    obtain ⟨k, hk, rfl, rfl, rfl⟩ := hrel
    by_cases hlt : k < n
    · have hck := HC.out k hlt
      have hp := bytes_get ps k HB.out
      have hi := Gf.ipow_lt x k
      have he := Gf.eval_lt (ps.take k) x (bytes_take ps k HB.out)
      have HS := Lib.hid (eval_step ps k x (by rw [HL.out]; exact hlt) HB.out hx)
      have HI : Hid (Gf.ipow x (k + 1) = Gf.gm (Gf.ipow x k) x) := rfl
      have hg := Gf.gm_lt (ps.getD k 0) (Gf.ipow x k) hp
      have HX := Lib.hid (u8_xor_nat (Gf.eval (ps.take k) x) (Gf.gm (ps.getD k 0) (Gf.ipow x k)) he hg)
      generalize ps.getD k 0 = c at *
      generalize Gf.ipow x k = pk at *
      generalize Gf.eval (ps.take k) x = v at *
      go_wp2_with ((go_at_call 15; refine (ref_gm _ _ _ (by omega) (by omega)).mono ?_; rintro e w' ⟨rfl, rfl⟩))
      go_round
      case rel => exact ⟨k + 1, by omega, by go_num, by rw [HS.out, ← HX.out], by rw [HI.out]⟩
      case measure => simp [intOf]; omega
    · obtain rfl : n = k := by omega
      have HE : Hid (ps.take n = ps) := List.take_of_length_le (by rw [HL.out]; omega)
      rw [HE.out]
      go_wp2_with fail
      refine (awake_any _).mono ?_
      rintro e w1 ⟨rfl, hb1⟩
      have HC1 := Lib.hid (below_cells hb1 HC.out)
      go_wp2_with fail
      refine (eval_row _ _ n _ _ ps _ HL.out (by unfold maxLen; omega) HB.out hx HC1.out).mono ?_
      rintro e w2 ⟨rfl, m2, rfl⟩
      go_wp2
      go_ret
      exact ⟨rfl, hb1.trans ((below_drewN _ _).mono hb1.size)⟩

set_option maxRecDepth 100000 in
set_option maxHeartbeats 1000000 in
theorem gfEvals_long (b off len cap x : Nat) (ps : List Nat) (w : World) (hL : ps.length = 300) (hn : 300 < len) (hlc : len ≤ cap) (hm : cap ≤ maxLen) (hB : Gf.Bytes ps) (hx : x < 256)
    (hC : ∀ i, i < 300 → w.cell? ⟨b, off + i, none⟩ = some (.int .u8 ((ps.getD i 0 : Nat) : Int))) :
    Calls Try.prog 6 #[.slice (some ⟨b, off, none⟩) len cap, .int .u8 (x : Int)] w fun e w' => e = .returned (.bool true) ∧ Below w.heap.size w w' := by
  unfold maxLen at hm
  have hd : decide ((300 : Int) < (len : Int)) = true := by simp; omega
  have HC := Lib.hid hC
  have HL := Lib.hid hL
  have HB := Lib.hid hB
  clear hC hL hB
  go_enter Try.func6, Try.ntmps6
  go_wp2
  go_loop [5, 6, 7] (fun o p i => ∃ k : Nat, k ≤ 300 ∧ i = .int .i64 k ∧ o = .int .u8 ((Gf.eval (ps.take k) x : Nat) : Int) ∧ p = .int .u8 ((Gf.ipow x k : Nat) : Int)) (fun _ _ i => 300 - (intOf i).toNat)
  case atStart => exact ⟨0, Nat.zero_le _, rfl, rfl, rfl⟩
  case round =>
    obtain ⟨k, hk, rfl, rfl, rfl⟩ := hrel
    by_cases hlt : k < 300
    · have hck := HC.out k hlt
      have hp := bytes_get ps k HB.out
      have hi := Gf.ipow_lt x k
      have he := Gf.eval_lt (ps.take k) x (bytes_take ps k HB.out)
      have HS := Lib.hid (eval_step ps k x (by rw [HL.out]; exact hlt) HB.out hx)
      have HI : Hid (Gf.ipow x (k + 1) = Gf.gm (Gf.ipow x k) x) := rfl
      have hg := Gf.gm_lt (ps.getD k 0) (Gf.ipow x k) hp
      have HX := Lib.hid (u8_xor_nat (Gf.eval (ps.take k) x) (Gf.gm (ps.getD k 0) (Gf.ipow x k)) he hg)
      generalize ps.getD k 0 = c at *
      generalize Gf.ipow x k = pk at *
      generalize Gf.eval (ps.take k) x = v at *
      go_wp2_with ((go_at_call 15; refine (ref_gm _ _ _ (by omega) (by omega)).mono ?_; rintro e w' ⟨rfl, rfl⟩))
      go_round
      case rel => exact ⟨k + 1, by omega, by go_num, by rw [HS.out, ← HX.out], by rw [HI.out]⟩
      case measure => simp [intOf]; omega
    · obtain rfl : 300 = k := by omega
      have HE : Hid (ps.take 300 = ps) := List.take_of_length_le (by rw [HL.out]; omega)
      rw [HE.out]
      go_wp2_with fail
      refine (awake_any _).mono ?_
      rintro e w1 ⟨rfl, hb1⟩
      have HC1 := Lib.hid (below_cells hb1 HC.out)
      go_wp2_with fail
      refine (eval_row _ _ 300 _ _ ps _ HL.out (by unfold maxLen; omega) HB.out hx HC1.out).mono ?_
      rintro e w2 ⟨rfl, m2, rfl⟩
      go_wp2
      go_ret
      exact ⟨rfl, hb1.trans ((below_drewN _ _).mono hb1.size)⟩

set_option maxRecDepth 100000 in
set_option maxHeartbeats 1000000 in
theorem gfEvals_none (a : Option Addr) (cap x : Nat) (w : World) :
    Calls Try.prog 6 #[.slice a 0 cap, .int .u8 (x : Int)] w fun e w' => e = .returned (.bool true) ∧ Below w.heap.size w w' := by
  go_enter Try.func6, Try.ntmps6
  go_wp2
  refine wp_loop_rounds 1 ?_
  rw [rounds_succ]
  go_wp2_with fail
  refine (awake_any _).mono ?_
  rintro e w1 ⟨rfl, hb1⟩
  go_wp2_with fail
  refine (eval_none _ _ _ _).mono ?_
  rintro e w' ⟨rfl, rfl⟩
  go_wp2
  go_ret
  exact ⟨rfl, hb1⟩

theorem gfEvals_walk (a0 : Option Addr) (len0 cap0 : Nat) (z0 : List Int) (a1 : Int) (w : World) (w0 : IsRow .u8 w a0 len0 cap0 z0) (w1 : (Lit.int .u8 a1).wf = true) :
    Calls Try.prog 6 #[.slice a0 len0 cap0, .int .u8 a1] w fun e w' => e = .returned (.bool true) ∧ Below w.heap.size w w' := by
  obtain ⟨x, hx, rfl⟩ := u8_nat w1
  obtain ⟨hlc, hm⟩ := row_len w0
  by_cases h0 : len0 = 0
  · subst h0; exact gfEvals_none a0 cap0 x w
  · by_cases h3 : len0 ≤ 300
    · obtain ⟨ps, hL, hB, hC⟩ := row_of w0 len0 (Nat.le_refl _)
      obtain ⟨b, off, rfl, hD⟩ := hC (by omega)
      exact gfEvals_short b off len0 cap0 x ps w hL h3 hB hx hD
    · obtain ⟨ps, hL, hB, hC⟩ := row_of w0 300 (by omega)
      obtain ⟨b, off, rfl, hD⟩ := hC (by omega)
      exact gfEvals_long b off len0 cap0 x ps w hL (by omega) hlc hm hB hx hD

end Go.Proofs.Ytgpbjjclbmgjeaa
