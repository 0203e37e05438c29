/-
  What gf.Made makes: a block of 511 cells, the powers and the logarithms.
-/
import Derived.Test.YtjefjlalebpodaaWalksB
import Derived.Deep.QuietTactic
import Derived.BigQuiet
namespace Go.Proofs.Ytjefjlalebpodaa
open Go.RowKit

/-- The block behind n rounds. -/
def tab : Nat → Array Value
  | 0 => Array.replicate 511 (.int .u8 0)
  | n + 1 => ((tab n).setIfInBounds n (.int .u8 ((Gf.pw n : Nat) : Int))).setIfInBounds (255 + Gf.pw n) (.int .u8 (n : Int))

theorem tab_size (n : Nat) : (tab n).size = 511 := by
  induction n with
  | zero => simp [tab]
  | succ n ih => simp [tab, ih]

theorem pw_inj (i j : Nat) (hi : i < 255) (hj : j < 255) (h : Gf.pw i = Gf.pw j) : i = j := by
  rw [← Gf.lg_pw i hi, h, Gf.lg_pw j hj]

theorem tab_pow (n : Nat) (hn : n ≤ 255) (i : Nat) (hi : i < n) : (tab n)[i]? = some (.int .u8 ((Gf.pw i : Nat) : Int)) := by
  induction n with
  | zero => omega
  | succ n ih =>
    show (((tab n).setIfInBounds n _).setIfInBounds (255 + Gf.pw n) _)[i]? = _
    rw [Array.getElem?_setIfInBounds_ne (by omega)]
    by_cases h : i = n
    · subst h; rw [Array.getElem?_setIfInBounds_self_of_lt (by rw [tab_size]; omega)]
    · rw [Array.getElem?_setIfInBounds_ne (by omega)]; exact ih (by omega) (by omega)

theorem tab_log (n : Nat) (hn : n ≤ 255) (i : Nat) (hi : i < n) : (tab n)[255 + Gf.pw i]? = some (.int .u8 (i : Int)) := by
  induction n with
  | zero => omega
  | succ n ih =>
    show (((tab n).setIfInBounds n _).setIfInBounds (255 + Gf.pw n) _)[255 + Gf.pw i]? = _
    by_cases h : i = n
    · subst h
      have := Gf.pw_lt i
      rw [Array.getElem?_setIfInBounds_self_of_lt (by rw [Array.size_setIfInBounds, tab_size]; omega)]
    · rw [Array.getElem?_setIfInBounds_ne (by intro e; exact h (pw_inj i n (by omega) (by omega) (by omega))), Array.getElem?_setIfInBounds_ne (by omega)]
      exact ih (by omega) (by omega)

/-- Block b holds the table that Made makes. -/
structure IsTab (w : World) (b : Nat) : Prop where
  pow : ∀ i, i < 255 → w.cell? ⟨b, i, none⟩ = some (.int .u8 ((Gf.pw i : Nat) : Int))
  log : ∀ a, a ≠ 0 → a < 256 → w.cell? ⟨b, 255 + a, none⟩ = some (.int .u8 ((Gf.lg a : Nat) : Int))

theorem IsTab.new (w : World) (t : TypeId) : IsTab (w.alloc (.cells (tab 255) t)) w.heap.size where
  pow i hi := by rw [World.cell?_alloc_at (hn := rfl)]; exact tab_pow 255 (by omega) i hi
  log a h0 h := by
    rw [World.cell?_alloc_at (hn := rfl)]
    have := tab_log 255 (by omega) (Gf.lg a) (Gf.lg_lt a h0 h)
    rw [Gf.pw_lg a h0 h] at this
    exact this

theorem IsTab.below {w w' : World} {b : Nat} (h : IsTab w b) (hb : Below w.heap.size w w') (hs : b < w.heap.size) : IsTab w' b where
  pow i hi := by rw [hb.cell (p := ⟨b, i, none⟩) hs]; exact h.pow i hi
  log a h0 h1 := by rw [hb.cell (p := ⟨b, 255 + a, none⟩) hs]; exact h.log a h0 h1

theorem zero43 (w : World) : (zeroValue 108).run Try.prog w = .ok (.agg (tab 0)) w := by kernel_rfl

set_option maxRecDepth 100000 in
set_option maxHeartbeats 400000 in
theorem made_any (w : World) :
    Calls Try.prog 68 #[] w fun e w' => e = .returned (.pointer (some ⟨w.heap.size, 0, none⟩)) ∧ w.alloc (.cells (tab 255) 108) = w' := by
  have hz := zero43
  go_enter Try.func68, Try.ntmps68
  go_wp2
  clear hz
  go_loopw [2, 3, 5] (fun p _ i ws => ∃ k : Nat, k ≤ 255 ∧ i = .int .i64 k ∧ p = .int .u8 ((Gf.pw k : Nat) : Int) ∧ ws = w.alloc (.cells (tab k) 108)) (fun _ _ i _ => 255 - (intOf i).toNat)
  case atStart => exact ⟨0, Nat.zero_le _, rfl, rfl, rfl⟩
  case round =>
    obtain ⟨k, hk, rfl, rfl, rfl⟩ := hrel
    have hl := Gf.pw_lt k
    by_cases hlt : k < 255
    · obtain ⟨v1, hv1⟩ : ∃ v, (tab k)[k]? = some v := ⟨_, Array.getElem?_eq_getElem (by rw [tab_size]; omega)⟩
      obtain ⟨v2, hv2⟩ : ∃ v, ((tab k).setIfInBounds k (.int .u8 ((Gf.pw k : Nat) : Int)))[255 + Gf.pw k]? = some v := ⟨_, Array.getElem?_eq_getElem (by rw [Array.size_setIfInBounds, tab_size]; omega)⟩
      have HP : Hid (Gf.pw (k + 1) = Gf.dbl (Gf.pw k)) := rfl
      go_wp2_with ((go_at_call 79; refine (dbl_any _ _ (by omega)).mono ?_; rintro e w' ⟨rfl, rfl⟩))
      go_round
      case rel => exact ⟨k + 1, by omega, by go_num, by rw [HP.out], rfl⟩
      case measure => simp [intOf]; omega
    · obtain rfl : k = 255 := by omega
      go_wp2
      go_ret
      exact ⟨rfl, rfl⟩

theorem rem_add (x y : Nat) (w : World) :
    Calls Try.prog 81 #[.int .i64 ((x : Int) + (y : Int))] w fun e w' => e = .returned (.int .i64 (((x + y) % 255 : Nat) : Int)) ∧ w' = w :=
  (rem_any _ w).mono fun e w' ⟨h, h'⟩ => ⟨by rw [h]; simp, h'.symm⟩

theorem rem_neg (x : Nat) (hx : x < 255) (w : World) :
    Calls Try.prog 81 #[.int .i64 (-(x : Int))] w fun e w' => e = .returned (.int .i64 (((255 - x) % 255 : Nat) : Int)) ∧ w' = w :=
  (rem_any _ w).mono fun e w' ⟨h, h'⟩ => ⟨by rw [h]; exact ret_i64 (by omega), h'.symm⟩

set_option maxHeartbeats 400000 in
theorem tmul_none (a b : Nat) (w : World) :
    Calls Try.prog 72 #[.pointer none, .int .u8 (a : Int), .int .u8 (b : Int)] w fun e w' => e = .returned (.int .u8 0) ∧ w = w' := by
  go_enter Try.func72, Try.ntmps72
  go_wp2
  go_ret
  exact ⟨rfl, rfl⟩

set_option maxHeartbeats 400000 in
theorem tinv_none (a : Nat) (w : World) :
    Calls Try.prog 85 #[.pointer none, .int .u8 (a : Int)] w fun e w' => e = .returned (.int .u8 0) ∧ w = w' := by
  go_enter Try.func85, Try.ntmps85
  go_wp2
  go_ret
  exact ⟨rfl, rfl⟩

set_option maxHeartbeats 400000 in
theorem tinv_zero (b : Nat) (w : World) :
    Calls Try.prog 85 #[.pointer (some ⟨b, 0, none⟩), .int .u8 0] w fun e w' => e = .returned (.int .u8 0) ∧ w = w' := by
  go_enter Try.func85, Try.ntmps85
  go_wp2
  go_ret
  exact ⟨rfl, rfl⟩

set_option maxHeartbeats 400000 in
theorem tinv_some (b a : Nat) (w : World) (ht : IsTab w b) (h0 : a ≠ 0) (ha : a < 256) :
    Calls Try.prog 85 #[.pointer (some ⟨b, 0, none⟩), .int .u8 (a : Int)] w fun e w' => e = .returned (.int .u8 ((Gf.inv a : Nat) : Int)) ∧ ∃ n, w' = w.drewN n := by
  have hl := Gf.lg_lt a h0 ha
  have hc1 := ht.log a h0 ha
  have hc2 := ht.pow ((255 - Gf.lg a) % 255) (Nat.mod_lt _ (by omega))
  have HE : Hid (Gf.inv a = Gf.pw ((255 - Gf.lg a) % 255)) := by show Gf.inv a = _; unfold Gf.inv; rw [if_neg h0]
  have hr : (255 - Gf.lg a) % 255 < 255 := Nat.mod_lt _ (by omega)
  have t0 : ((a : Int) == 0) = false := by simp; omega
  clear ht
  go_enter Try.func85, Try.ntmps85
  go_wp2
  go_quiet ((go_at_call 81; exact Calls.quiet_of_same (rem_neg _ (by omega) _)))
  go_wp2
  go_ret
  exact ⟨ret_u8 (by rw [HE.out]), nq, rfl⟩

theorem below_drewN (w : World) (n : Nat) : Below w.heap.size w (w.drewN n) := ⟨rfl, rfl, rfl, Nat.le_refl _, fun _ _ => rfl⟩

theorem tinv_any (b a : Nat) (w : World) (ht : IsTab w b) (ha : a < 256) :
    Calls Try.prog 85 #[.pointer (some ⟨b, 0, none⟩), .int .u8 (a : Int)] w fun e w' => e = .returned (.int .u8 ((Gf.inv a : Nat) : Int)) ∧ ∃ n, w' = w.drewN n := by
  by_cases h0 : a = 0
  · subst h0; exact (tinv_zero b w).mono fun e w' ⟨h, h'⟩ => ⟨h, 0, h'.symm⟩
  · exact tinv_some b a w ht h0 ha

set_option maxHeartbeats 400000 in
theorem tmul_left (b y : Nat) (w : World) :
    Calls Try.prog 72 #[.pointer (some ⟨b, 0, none⟩), .int .u8 0, .int .u8 (y : Int)] w fun e w' => e = .returned (.int .u8 0) ∧ w = w' := by
  go_enter Try.func72, Try.ntmps72
  go_wp2
  go_ret
  exact ⟨rfl, rfl⟩

set_option maxHeartbeats 400000 in
theorem tmul_right (b x : Nat) (h0 : x ≠ 0) (w : World) :
    Calls Try.prog 72 #[.pointer (some ⟨b, 0, none⟩), .int .u8 (x : Int), .int .u8 0] w fun e w' => e = .returned (.int .u8 0) ∧ w = w' := by
  have t0 : ((x : Int) == 0) = false := by simp; omega
  go_enter Try.func72, Try.ntmps72
  go_wp2
  go_ret
  exact ⟨rfl, rfl⟩

set_option maxHeartbeats 400000 in
theorem tmul_some (b x y : Nat) (w : World) (ht : IsTab w b) (hx0 : x ≠ 0) (hx : x < 256) (hy0 : y ≠ 0) (hy : y < 256) :
    Calls Try.prog 72 #[.pointer (some ⟨b, 0, none⟩), .int .u8 (x : Int), .int .u8 (y : Int)] w fun e w' => e = .returned (.int .u8 ((Gf.gm x y : Nat) : Int)) ∧ ∃ n, w' = w.drewN n := by
  have hlx := Gf.lg_lt x hx0 hx
  have hly := Gf.lg_lt y hy0 hy
  have hc1 := ht.log x hx0 hx
  have hc2 := ht.log y hy0 hy
  have hc3 := ht.pow ((Gf.lg x + Gf.lg y) % 255) (Nat.mod_lt _ (by omega))
  have HE : Hid (Gf.gm x y = Gf.pw ((Gf.lg x + Gf.lg y) % 255)) := by show Gf.gm x y = _; rw [Gf.gm_pw x y hx0 hy0 hx hy, Gf.pw_mod]
  have hr : (Gf.lg x + Gf.lg y) % 255 < 255 := Nat.mod_lt _ (by omega)
  have t0 : ((x : Int) == 0) = false := by simp; omega
  have t1 : ((y : Int) == 0) = false := by simp; omega
  clear ht
  have hw : IntKind.i64.wrap (((Gf.lg x : Nat) : Int) + ((Gf.lg y : Nat) : Int)) = ((Gf.lg x : Nat) : Int) + ((Gf.lg y : Nat) : Int) := IntWalk.i64_in _ (by omega)
  go_enter Try.func72, Try.ntmps72
  go_wp2
  go_quiet ((go_at_call 81; exact Calls.quiet_of_same (rem_add _ _ _)))
  go_wp2
  go_ret
  exact ⟨ret_u8 (by rw [HE.out]), nq, rfl⟩

theorem tmul_any (b x y : Nat) (w : World) (ht : IsTab w b) (hx : x < 256) (hy : y < 256) :
    Calls Try.prog 72 #[.pointer (some ⟨b, 0, none⟩), .int .u8 (x : Int), .int .u8 (y : Int)] w fun e w' => e = .returned (.int .u8 ((Gf.gm x y : Nat) : Int)) ∧ ∃ n, w' = w.drewN n := by
  by_cases h0 : x = 0
  · subst h0; rw [Gf.zero_gm]; exact (tmul_left b y w).mono fun e w' ⟨h, h'⟩ => ⟨h, 0, h'.symm⟩
  · by_cases h1 : y = 0
    · subst h1; rw [Gf.gm_zero]; exact (tmul_right b x h0 w).mono fun e w' ⟨h, h'⟩ => ⟨h, 0, h'.symm⟩
    · exact tmul_some b x y w ht h0 hx h1 hy

end Go.Proofs.Ytjefjlalebpodaa
