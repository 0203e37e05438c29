/-
  What the reference's Num, Text and Read do; math/bits' Mul64 at 128.
-/
import Derived.Test.YtdgpbdedaafdiaaGreatWalksV2
namespace Go.Proofs.YtdgpbdedaafdiaaGreat
open Go.RowKit

theorem and32 (x : Nat) (hx : x < 18446744073709551616) : bits BinOp.and IntKind.u64 (x : Int) 4294967295 = ((x % 4294967296 : Nat) : Int) := by
  rw [show (4294967295 : Int) = ((4294967295 : Nat) : Int) by rfl, u64_and_nat _ _ hx (by omega), show (4294967295 : Nat) = 2 ^ 32 - 1 by rfl, Nat.and_two_pow_sub_one_eq_mod]

theorem mul_hi (x : Nat) (hx : x < 18446744073709551616) : IntKind.u64.wrap (((x : Int) / 4294967296 * 128 + (x : Int) % 4294967296 * 128 / 4294967296) / 4294967296 + IntKind.u64.wrap (bits BinOp.and IntKind.u64 ((x : Int) / 4294967296 * 128 + (x : Int) % 4294967296 * 128 / 4294967296) 4294967295) / 4294967296) = ((x * 128 / 18446744073709551616 : Nat) : Int) := by
  have e : (x : Int) / 4294967296 * 128 + (x : Int) % 4294967296 * 128 / 4294967296 = ((x / 4294967296 * 128 + x % 4294967296 * 128 / 4294967296 : Nat) : Int) := by omega
  rw [e, and32 _ (by omega), IntWalk.u64_in (((x / 4294967296 * 128 + x % 4294967296 * 128 / 4294967296) % 4294967296 : Nat) : Int) (by omega), IntWalk.u64_in _ (by omega)]
  omega

theorem mul_lo (x : Nat) : IntKind.u64.wrap ((x : Int) * 128) = ((x * 128 % 18446744073709551616 : Nat) : Int) := by
  rw [IntKind.wrap_u64]
  omega

theorem ret_pair {k q : IntKind} {a b c d : Int} (h : a = c) (h' : b = d) : Ending.returned (.tuple #[.int k a, .int q b]) = .returned (.tuple #[.int k c, .int q d]) := by rw [h, h']


set_option maxRecDepth 100000 in
set_option maxHeartbeats 1000000 in
theorem refNum_any (n : Int) (w : World) (h0 : -9223372036854775808 ≤ n) (h1 : n ≤ 9223372036854775807) :
    Calls Tryz.prog 83 #[.int .i64 n] w (RetO w (Pk.num n)) := by
  have hf := Pk.fold_lt n h0 h1
  have HN : Hid (Pk.num n = Pk.encN 9 (Pk.fold n)) := rfl
  by_cases h : n < 0
  · have HU0 : Hid ((-1 - n) * 2 + 1 = ((Pk.fold n : Nat) : Int)) := by show _ = _; rw [Pk.fold_neg n h]; omega
    generalize Pk.fold n = u0 at *
    go_enter Tryz.func83, Tryz.ntmps83
    go_wp2
    go_loopw [3, 4] (fun u v ws => ∃ (k U g c : Nat) (cs : List Nat), k ≤ 9 ∧ cs.length + k = 9 ∧ U < 18446744073709551616 ∧ u = .int .u64 (U : Int) ∧ v = .slice (some ⟨g, 0, none⟩) cs.length c ∧ Hid (U < 128 ^ (k + 1)) ∧ Hid (Pk.encN 9 u0 = cs ++ Pk.encN k U) ∧ Hid (OwnB ws w.heap.size g c cs) ∧ Hid (Below w.heap.size w ws)) (fun u _ _ => (intOf u).toNat)
    case atStart => exact ⟨9, u0, w.heap.size, 0, [], Nat.le_refl _, rfl, hf, by rw [HU0.out], rfl, Nat.lt_of_lt_of_le hf (by decide), rfl, ownB_lit w _ [] #[] rfl bytes_nil (Nat.le_refl _) (by simp), below_one w _⟩
    case round =>
      obtain ⟨k, U, g, c0, cs, hk, hcs, hU, rfl, rfl, HU, HE, HR, HB⟩ := hrel
      have hsz := HB.out.size
      have hg := HR.out.lt
      by_cases hlt : U < 128
      · have hd : decide ((128 : Int) ≤ (U : Int)) = false := by simp; omega
        go_wp2_with (at_builtin; refine wpList_appB rfl (.tmp 27) (.tmp 30) rfl w.heap.size g c0 cs [U] rfl (HR.out.chg (gs := []) (Chg.of_below (below_one _ _)) (by simp)) _ 1 rfl (seen_byte _ U (by omega)) (by simp; omega) (by simp; omega) ?_; intro g3 cap3 w3 own3 chg3 hg3)
        have HR3 : Hid (RetO w (Pk.num n) (.returned (.slice (some ⟨g3, 0, none⟩) (cs.length + 1) cap3)) w3) := by
          show RetO _ _ _ _
          have e : Pk.num n = cs ++ [U] := by rw [HN.out, HE.out, Pk.encN_small k U hlt]
          have hb3 := chg3.below (HB.out.alloc hsz _) (by simp; omega) (by simp; omega)
          rw [e]
          exact ⟨g3, cap3, by simp, own3, hb3⟩
        clear own3 chg3 hg3
        go_ret
        exact HR3.out
      · have hd : decide ((128 : Int) ≤ (U : Int)) = true := by simp; omega
        obtain ⟨j, rfl⟩ : ∃ j, k = j + 1 := by
          cases k with
          | zero => have := HU.out; simp at this; omega
          | succ j => exact ⟨j, rfl⟩
        have HE' := Lib.hid (fold_chain HE.out hlt)
        have HU' : Hid (U / 128 < 128 ^ (j + 1)) := by
          show _ < _
          have := HU.out
          rw [Nat.pow_succ] at this
          omega
        obtain ⟨c, hc⟩ : ∃ c, c = U % 128 + 128 := ⟨_, rfl⟩
        have hc1 : c < 256 := by omega
        have hm : (U : Int) % 128 + 128 = (c : Int) := by omega
        rw [← hc] at HE'
        clear hc
        have HD : Hid ((U : Int) / 128 = ((U / 128 : Nat) : Int)) := by show _ = _; omega
        clear HE HU
        go_wp2_with (at_builtin; (refine wpList_appB rfl (.tmp 18) (.tmp 23) rfl w.heap.size g c0 cs [c] rfl (HR.out.chg (gs := []) (Chg.of_below (below_one _ _)) (by simp)) _ 1 rfl (seen_byte _ c hc1) (by simp; omega) (by simp; omega) ?_); intro g3 cap3 w3 own3 chg3 hg3)
        have HR3 : Hid (OwnB w3 w.heap.size g3 cap3 (cs ++ [c])) := own3
        have HB3 : Hid (Below w.heap.size w w3) := chg3.below (HB.out.alloc hsz _) (by simp; omega) (by simp; omega)
        clear own3 chg3 hg3
        go_roundw
        case rel => exact ⟨j, U / 128, g3, cap3, cs ++ [c], by omega, by simp; omega, by omega, by rw [← HD.out], by simp, HU', HE', HR3, HB3⟩
        case measure => simp [intOf]; omega
  · have HU0 : Hid (n * 2 = ((Pk.fold n : Nat) : Int)) := by show _ = _; rw [Pk.fold_pos n h]; omega
    have h' : 0 ≤ n := by omega
    generalize Pk.fold n = u0 at *
    go_enter Tryz.func83, Tryz.ntmps83
    go_wp2
    go_loopw [3, 4] (fun u v ws => ∃ (k U g c : Nat) (cs : List Nat), k ≤ 9 ∧ cs.length + k = 9 ∧ U < 18446744073709551616 ∧ u = .int .u64 (U : Int) ∧ v = .slice (some ⟨g, 0, none⟩) cs.length c ∧ Hid (U < 128 ^ (k + 1)) ∧ Hid (Pk.encN 9 u0 = cs ++ Pk.encN k U) ∧ Hid (OwnB ws w.heap.size g c cs) ∧ Hid (Below w.heap.size w ws)) (fun u _ _ => (intOf u).toNat)
    case atStart => exact ⟨9, u0, w.heap.size, 0, [], Nat.le_refl _, rfl, hf, by rw [HU0.out], rfl, Nat.lt_of_lt_of_le hf (by decide), rfl, ownB_lit w _ [] #[] rfl bytes_nil (Nat.le_refl _) (by simp), below_one w _⟩
    case round =>
      obtain ⟨k, U, g, c0, cs, hk, hcs, hU, rfl, rfl, HU, HE, HR, HB⟩ := hrel
      have hsz := HB.out.size
      have hg := HR.out.lt
      by_cases hlt : U < 128
      · have hd : decide ((128 : Int) ≤ (U : Int)) = false := by simp; omega
        go_wp2_with (at_builtin; refine wpList_appB rfl (.tmp 27) (.tmp 30) rfl w.heap.size g c0 cs [U] rfl (HR.out.chg (gs := []) (Chg.of_below (below_one _ _)) (by simp)) _ 1 rfl (seen_byte _ U (by omega)) (by simp; omega) (by simp; omega) ?_; intro g3 cap3 w3 own3 chg3 hg3)
        have HR3 : Hid (RetO w (Pk.num n) (.returned (.slice (some ⟨g3, 0, none⟩) (cs.length + 1) cap3)) w3) := by
          show RetO _ _ _ _
          have e : Pk.num n = cs ++ [U] := by rw [HN.out, HE.out, Pk.encN_small k U hlt]
          have hb3 := chg3.below (HB.out.alloc hsz _) (by simp; omega) (by simp; omega)
          rw [e]
          exact ⟨g3, cap3, by simp, own3, hb3⟩
        clear own3 chg3 hg3
        go_ret
        exact HR3.out
      · have hd : decide ((128 : Int) ≤ (U : Int)) = true := by simp; omega
        obtain ⟨j, rfl⟩ : ∃ j, k = j + 1 := by
          cases k with
          | zero => have := HU.out; simp at this; omega
          | succ j => exact ⟨j, rfl⟩
        have HE' := Lib.hid (fold_chain HE.out hlt)
        have HU' : Hid (U / 128 < 128 ^ (j + 1)) := by
          show _ < _
          have := HU.out
          rw [Nat.pow_succ] at this
          omega
        obtain ⟨c, hc⟩ : ∃ c, c = U % 128 + 128 := ⟨_, rfl⟩
        have hc1 : c < 256 := by omega
        have hm : (U : Int) % 128 + 128 = (c : Int) := by omega
        rw [← hc] at HE'
        clear hc
        have HD : Hid ((U : Int) / 128 = ((U / 128 : Nat) : Int)) := by show _ = _; omega
        clear HE HU
        go_wp2_with (at_builtin; (refine wpList_appB rfl (.tmp 18) (.tmp 23) rfl w.heap.size g c0 cs [c] rfl (HR.out.chg (gs := []) (Chg.of_below (below_one _ _)) (by simp)) _ 1 rfl (seen_byte _ c hc1) (by simp; omega) (by simp; omega) ?_); intro g3 cap3 w3 own3 chg3 hg3)
        have HR3 : Hid (OwnB w3 w.heap.size g3 cap3 (cs ++ [c])) := own3
        have HB3 : Hid (Below w.heap.size w w3) := chg3.below (HB.out.alloc hsz _) (by simp; omega) (by simp; omega)
        clear own3 chg3 hg3
        go_roundw
        case rel => exact ⟨j, U / 128, g3, cap3, cs ++ [c], by omega, by simp; omega, by omega, by rw [← HD.out], by simp, HU', HE', HR3, HB3⟩
        case measure => simp [intOf]; omega

set_option maxHeartbeats 1000000 in
theorem refText_any (a : Option Addr) (cap l : Nat) (ps : List Nat) (w : World) (hl : ps.length = l) (hm : l ≤ 100000000) (h : SeenAt w a cap ps) :
    Calls Tryz.prog 67 #[.slice a l cap] w (RetO w (Pk.txt ps)) := by
  have HL := Lib.hid hl
  have HS := Lib.hid h
  have HN := Lib.hid (Pk.num_len (l : Int))
  have HT : Hid (Pk.txt ps = Pk.num (l : Int) ++ ps) := by show _ = _; unfold Pk.txt; rw [hl]
  clear hl h
  go_enter Tryz.func67, Tryz.ntmps67
  go_wp2_with fail
  refine (refNum_any (l : Int) _ (by omega) (by omega)).mono ?_
  rintro e w1 ⟨g1, c1, rfl, own1, hb1⟩
  have HO := Lib.hid own1
  have HB := Lib.hid hb1
  clear own1 hb1
  go_wp2_with (at_builtin; refine wpList_appB rfl (.tmp 5) (.tmp 6) rfl w.heap.size g1 c1 (Pk.num (l : Int)) ps rfl HO.out _ _ (by rw [HL.out]; rfl) (HS.out.below HB.out) (by have := HN.out; rw [HL.out]; omega) HB.out.size ?_; intro g3 cap3 w3 own3 chg3 hg3)
  have HR : Hid (RetO w (Pk.txt ps) (.returned (.slice (some ⟨g3, 0, none⟩) (Pk.num (l : Int) ++ ps).length cap3)) w3) := by
    show RetO _ _ _ _
    rw [HT.out]
    exact ⟨g3, cap3, rfl, own3, chg3.below HB.out HB.out.size (by simp; exact HO.out.lt.1)⟩
  clear own3 chg3 hg3
  rw [List.length_append] at HR
  go_ret
  exact HR.out

end Go.Proofs.YtdgpbdedaafdiaaGreat
