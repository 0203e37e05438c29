/-
  What gf.Inv, gf.Log, gf.Pow and gf.Eval do.
-/
import Derived.Test.YtgpbjjclbmgjeaaWalksC
import Derived.Deep.RegionHeld3
namespace Go.Proofs.Ytgpbjjclbmgjeaa
open Go.RowKit

/-- A row of cells that holds the powers and the logarithms. -/
structure TabCells (cs : Array Value) : Prop where
  pow : ∀ i, i < 255 → cs[i]? = some (.int .u8 ((Gf.pw i : Nat) : Int))
  log : ∀ a, a ≠ 0 → a < 256 → cs[255 + a]? = some (.int .u8 ((Gf.lg a : Nat) : Int))

theorem TabCells.isTab {cs : Array Value} (h : TabCells cs) (w : World) (t : TypeId) : IsTab (w.alloc (.cells cs t)) w.heap.size where
  pow i hi := by rw [World.cell?_alloc_at (hn := rfl)]; exact h.pow i hi
  log a h0 ha := by rw [World.cell?_alloc_at (hn := rfl)]; exact h.log a h0 ha

theorem made_ex (w : World) :
    Calls Try.prog 11 #[] w fun e w' => e = .returned (.pointer (some ⟨w.heap.size, 0, none⟩)) ∧ ∃ cs, TabCells cs ∧ w.alloc (.cells cs 43) = w' :=
  (made_any w).mono fun e w' ⟨h, h'⟩ => ⟨h, tab 255, ⟨fun i hi => tab_pow 255 (by omega) i hi, fun a h0 ha => by
    have := tab_log 255 (by omega) (Gf.lg a) (Gf.lg_lt a h0 ha)
    rw [Gf.pw_lg a h0 ha] at this
    exact this⟩, h'⟩

theorem below_one (w : World) (o : Obj) : Below w.heap.size w (w.alloc o) := (Below.refl _ _).alloc (Nat.le_refl _) _

set_option maxHeartbeats 400000 in
theorem inv_any (a : Nat) (w : World) (ha : a < 256) :
    Calls Try.prog 17 #[.int .u8 (a : Int)] w fun e w' => e = .returned (.int .u8 ((Gf.inv a : Nat) : Int)) ∧ Below w.heap.size w w' := by
  go_enter Try.func17, Try.ntmps17
  go_wp2_with (first | (go_at_call 11; refine (made_ex _).mono ?_; rintro e w' ⟨rfl, cs, hcs, rfl⟩) | (go_at_call 18; refine (tinv_any _ _ _ (TabCells.isTab ‹_› _ _) (by omega)).mono ?_; rintro e w' ⟨rfl, n, rfl⟩))
  go_ret
  exact ⟨rfl, (below_one _ _).trans ((below_drewN _ _).mono (by simp))⟩

set_option maxHeartbeats 400000 in
theorem log_zero (w : World) :
    Calls Try.prog 19 #[.int .u8 0] w fun e w' => e = .returned (.tuple #[.int .i64 0, .bool false]) ∧ w = w' := by
  go_enter Try.func19, Try.ntmps19
  go_wp2
  go_ret2
  exact ⟨rfl, rfl⟩

set_option maxHeartbeats 400000 in
theorem log_some (a : Nat) (w : World) (h0 : a ≠ 0) (ha : a < 256) :
    Calls Try.prog 19 #[.int .u8 (a : Int)] w fun e w' => e = .returned (.tuple #[.int .i64 ((Gf.lg a : Nat) : Int), .bool true]) ∧ Below w.heap.size w w' := by
  have hl := Gf.lg_lt a h0 ha
  have t0 : ((a : Int) == 0) = false := by simp; omega
  go_enter Try.func19, Try.ntmps19
  go_wp2_with ((go_at_call 11; refine (made_ex _).mono ?_; rintro e w' ⟨rfl, cs, hcs, rfl⟩; have hc := hcs.log a h0 ha))
  go_ret2
  exact ⟨rfl, below_one _ _⟩

set_option maxHeartbeats 400000 in
theorem pow_any (n : Int) (w : World) :
    Calls Try.prog 20 #[.int .i64 n] w fun e w' => e = .returned (.int .u8 ((Gf.pw (n % 255).toNat : Nat) : Int)) ∧ Below w.heap.size w w' := by
  have hn0 : 0 ≤ n % 255 := by omega
  have hn1 : n % 255 < 255 := by omega
  go_enter Try.func20, Try.ntmps20
  go_wp2
  go_region_with (first | (go_at_call 11; refine (made_ex _).mono ?_; rintro e w' ⟨rfl, cs, hcs, rfl⟩; have hc := hcs.pow (n % 255).toNat (by omega)) | (go_at_call 26; refine (rem_any _ _).mono ?_; rintro e w' ⟨rfl, rfl⟩))
  go_wp2
  go_ret
  exact ⟨rfl, (below_one _ _).drew⟩

theorem quiet_left' {P : Program} {f : FuncId} {args : Array Value} {w : World} {n : Nat} {v : Value}
    (h : Calls P f args (w.drewN n) fun e w' => e = .returned v ∧ w.drewN n = w') : Calls P f args (w.drewN n) fun e w'' => e = .returned v ∧ ∃ m, w'' = w.drewN m :=
  h.mono fun _ _ h => ⟨h.1, _, h.2.symm⟩

set_option maxHeartbeats 400000 in
theorem eval_none (a : Option Addr) (cap x : Nat) (w : World) :
    Calls Try.prog 22 #[.slice a 0 cap, .int .u8 (x : Int)] w fun e w' => e = .returned (.int .u8 0) ∧ w = w' := by
  go_enter Try.func22, Try.ntmps22
  go_wp2
  refine wp_loop_rounds 1 ?_
  rw [rounds_succ]
  go_wp2
  go_ret
  exact ⟨rfl, rfl⟩

theorem drop_get (ps : List Nat) (j : Nat) (h : j < ps.length) : ps.drop j = ps.getD j 0 :: ps.drop (j + 1) := by
  rw [List.drop_eq_getElem_cons h, List.getD_eq_getElem?_getD, List.getElem?_eq_getElem h]; rfl

set_option maxHeartbeats 1000000 in
theorem eval_row (b off len cap x : Nat) (ps : List Nat) (w : World) (hlen : ps.length = len) (hm : len ≤ maxLen) (hB : Gf.Bytes ps) (hx : x < 256)
    (hc : ∀ i, i < len → w.cell? ⟨b, off + i, none⟩ = some (.int .u8 ((ps.getD i 0 : Nat) : Int))) :
    Calls Try.prog 22 #[.slice (some ⟨b, off, none⟩) len cap, .int .u8 (x : Int)] w fun e w' => e = .returned (.int .u8 ((Gf.eval ps x : Nat) : Int)) ∧ ∃ n, w' = w.drewN n := by
  unfold maxLen at hm
  have HC := Lib.hid hc
  have HL := Lib.hid hlen
  have HB := Lib.hid hB
  clear hc hlen hB
  go_enter Try.func22, Try.ntmps22
  go_wp2
  go_loopw [5, 6] (fun v i ws' => ∃ j m : Nat, j ≤ len ∧ i = .int .i64 ((j : Int) - 1) ∧ v = .int .u8 ((Gf.eval (ps.drop j) x : Nat) : Int) ∧ ws' = w.drewN m) (fun _ i _ => (intOf i + 1).toNat)
  case atStart => exact ⟨len, 0, by omega, rfl, by rw [List.drop_of_length_le (by rw [HL.out]; omega)]; rfl, rfl⟩
  case round =>
    obtain ⟨j, m, hj, rfl, rfl, hws⟩ := hrel
    have hcw : ∀ q, wr.cell? q = w.cell? q := by intro q; rw [hws]; rfl
    have HW := Lib.hid hws
    clear hws
    by_cases hlt : 1 ≤ j
    · obtain ⟨k, rfl⟩ : ∃ k, j = k + 1 := ⟨j - 1, by omega⟩
      have hck := HC.out k (by omega)
      rw [← hcw] at hck
      clear hcw
      have hp : ps.getD k 0 < 256 := by
        rw [List.getD_eq_getElem?_getD, List.getElem?_eq_getElem (by rw [HL.out]; omega)]
        exact HB.out _ (List.getElem_mem _)
      have he : Gf.eval (ps.drop (k + 1)) x < 256 := Gf.eval_lt _ _ fun c h => HB.out c (List.mem_of_mem_drop h)
      have hg := Gf.gm_lt _ x he
      have HS : Hid (Gf.eval (ps.drop k) x = Gf.gm (Gf.eval (ps.drop (k + 1)) x) x ^^^ ps.getD k 0) := by
        show _ = _
        rw [drop_get ps k (by rw [HL.out]; omega)]; rfl
      have ek : ((k + 1 : Nat) : Int) - 1 = (k : Int) := by omega
      rw [ek]
      have hkl : (k : Int) < (len : Int) := by omega
      clear ek
      generalize ps.getD k 0 = c at *
      generalize Gf.eval (ps.drop (k + 1)) x = v at *
      go_wp2
      go_quiet (first | (go_at_call 25; exact quiet_left' (times_any _ _ _ (by omega) (by omega))) | (go_at_call 24; exact quiet_left' (plus_any _ _ _ (by omega) (by omega))))
      go_wp2
      go_round
      case rel => exact ⟨k, m + nq, by omega, rfl, by rw [HS.out], by rw [HW.out, World.drewN_drewN]⟩
      case measure => simp [intOf]
    · obtain rfl : j = 0 := by omega
      clear hcw
      go_wp2
      go_ret
      exact ⟨rfl, m, HW.out⟩

end Go.Proofs.Ytgpbjjclbmgjeaa
