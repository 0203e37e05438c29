/-
  The walk of the law SumFinds.
-/
import Derived.Test.YtcbnpihhcjgcfaaWalksU2
namespace Go.Proofs.Ytcbnpihhcjgcfaa
open Go.RowKit

/-- The bytes m with the bytes of t added from I on, k of them. -/
def trn (m : List Nat) (I t : Nat) : Nat → List Nat
  | 0 => m
  | k + 1 => (trn m I t k).set (I + k) ((trn m I t k).getD (I + k) 0 ^^^ t / 2 ^ (8 * k) % 2 ^ 8)

theorem trn_len (m : List Nat) (I t : Nat) : ∀ k, (trn m I t k).length = m.length
  | 0 => rfl
  | k + 1 => by show ((trn m I t k).set _ _).length = _; rw [List.length_set, trn_len m I t k]

theorem set_behind (ys L : List Nat) (k v : Nat) : (ys ++ L).set (ys.length + k) v = ys ++ L.set k v := by
  rw [List.set_append_right _ _ (by omega), Nat.add_sub_cancel_left]

theorem get_behind (ys L : List Nat) (k : Nat) : (ys ++ L).getD (ys.length + k) 0 = L.getD k 0 := by
  rw [List.getD_eq_getElem?_getD, List.getD_eq_getElem?_getD, List.getElem?_append_right (by omega), Nat.add_sub_cancel_left]

theorem trn_four (ys cs : List Nat) (a b c d t : Nat) : trn (ys ++ a :: b :: c :: d :: cs) ys.length t 4 = ys ++ Crc.add [a, b, c, d] (Crc.by4 t) ++ cs := by
  have e : ∀ k, trn (ys ++ a :: b :: c :: d :: cs) ys.length t k = ys ++ trn (a :: b :: c :: d :: cs) 0 t k := by
    intro k
    induction k with
    | zero => rfl
    | succ k ih =>
      show (trn _ _ _ k).set _ _ = ys ++ (trn _ _ _ k).set _ _
      rw [ih, get_behind, set_behind, Nat.zero_add]
  rw [e, List.append_assoc]
  congr 1
  simp [trn, Crc.add, Crc.by4]

theorem trn_turned (m : List Nat) (I t : Nat) (hI : I + 4 ≤ m.length) (hB : Gf.Bytes m) (ht : t < 2 ^ 32) (h0 : t ≠ 0) : Crc.sum (trn m I t 4) ≠ Crc.sum m := by
  obtain ⟨a, b, c, d, cs, e⟩ := Crc.four_of (m.drop I) (by simp; omega)
  have hm : m = m.take I ++ a :: b :: c :: d :: cs := by rw [← e, List.take_append_drop]
  have hl : (m.take I).length = I := by simp; omega
  have hB1 : Gf.Bytes (m.take I) := bytes_take m I hB
  have hB2 : Gf.Bytes [a, b, c, d] := by
    intro x hx
    refine hB x (List.mem_of_mem_drop (i := I) ?_)
    rw [e]
    simp at hx ⊢
    omega
  have h := Crc.sum_turned (m.take I) [a, b, c, d] cs t rfl hB1 hB2 ht h0
  have e1 : trn m I t 4 = m.take I ++ Crc.add [a, b, c, d] (Crc.by4 t) ++ cs := by
    conv => lhs; rw [hm]
    have := trn_four (m.take I) cs a b c d t
    rw [hl] at this
    exact this
  have e2 : m = m.take I ++ [a, b, c, d] ++ cs := by rw [List.append_assoc]; exact hm
  rw [e1]
  intro hh
  apply h
  rw [hh, ← e2]


set_option maxRecDepth 100000 in
set_option maxHeartbeats 1000000 in
theorem sumFinds_none (a0 : Option Addr) (l0 c0 p t : Nat) (w : World) (h : l0 < 4 ∨ 2000 < l0 ∨ t = 0) (h0 : l0 ≤ maxLen) :
    Calls Try.prog 5 #[.slice a0 l0 c0, .int .u16 (p : Int), .int .u32 (t : Int)] w fun e w' => e = .returned (.bool true) ∧ Below w.heap.size w w' := by
  unfold maxLen at h0
  by_cases hl : l0 < 4
  · have hd : decide ((l0 : Int) < 4) = true := by simp; omega
    go_enter Try.func5, Try.ntmps5
    go_wp2_with fail
    refine (awake_any _).mono ?_
    rintro e w1 ⟨rfl, hb1⟩
    go_wp2
    go_ret
    exact ⟨rfl, hb1⟩
  · have hd : decide ((l0 : Int) < 4) = false := by simp; omega
    by_cases hl' : 2000 < l0
    · have hd' : decide ((2000 : Int) < (l0 : Int)) = true := by simp; omega
      go_enter Try.func5, Try.ntmps5
      go_wp2_with fail
      refine (awake_any _).mono ?_
      rintro e w1 ⟨rfl, hb1⟩
      go_wp2
      go_ret
      exact ⟨rfl, hb1⟩
    · have hd' : decide ((2000 : Int) < (l0 : Int)) = false := by simp; omega
      obtain rfl : t = 0 := by omega
      go_enter Try.func5, Try.ntmps5
      go_wp2_with fail
      refine (awake_any _).mono ?_
      rintro e w1 ⟨rfl, hb1⟩
      go_wp2
      go_ret
      exact ⟨rfl, hb1⟩

set_option maxRecDepth 100000 in
set_option maxHeartbeats 1000000 in
theorem sumFinds_some (a0 : Option Addr) (l0 c0 p t : Nat) (m0 : List Nat) (w : World) (h0 : 4 ≤ l0) (h1 : l0 ≤ 2000) (hp : p < 65536) (ht : t < 4294967296) (ht0 : t ≠ 0) (L0 : m0.length = l0) (s0 : SeenAt w a0 c0 m0) :
    Calls Try.prog 5 #[.slice a0 l0 c0, .int .u16 (p : Int), .int .u32 (t : Int)] w fun e w' => e = .returned (.bool true) ∧ Below w.heap.size w w' := by
  have hd : decide ((l0 : Int) < 4) = false := by simp; omega
  have hd' : decide ((2000 : Int) < (l0 : Int)) = false := by simp; omega
  have hd2 : ((t : Int) == 0) = false := by simp; omega
  have H0 := Lib.hid L0
  have S0 := Lib.hid s0
  clear L0 s0
  go_enter Try.func5, Try.ntmps5
  go_wp2_with (at_builtin; refine wpList_appB rfl (.tmp 23) (.tmp 24) rfl w.heap.size w.heap.size 0 [] m0 rfl (ownB_lit w _ [] #[] rfl bytes_nil (Nat.le_refl _) (by simp)) _ _ (by rw [H0.out]; rfl) (S0.out.below (below_one _ _)) (by rw [H0.out]; simp; omega) (by simp) ?_; intro g cap w2 own2 chg2 hg2)
  have hI : (p : Int) % ((l0 : Int) - 3) = ((p % (l0 - 3) : Nat) : Int) := by rw [show (l0 : Int) - 3 = ((l0 - 3 : Nat) : Int) by omega]; exact (Int.natCast_emod p (l0 - 3)).symm
  have hI4 : p % (l0 - 3) + 4 ≤ l0 := by have := Nat.mod_lt p (show l0 - 3 > 0 by omega); omega
  rw [hI, H0.out]
  generalize p % (l0 - 3) = I at hI4 ⊢
  have hb2 : Below w.heap.size w w2 := chg2.below (below_one w _) (by simp) (by simp)
  have hgl := own2.lt
  have HO : Hid (OwnB w2 w.heap.size g cap (trn m0 I t 0)) := own2
  have HB2 := Lib.hid hb2
  clear own2 chg2 hg2 hb2 hI
  go_loopw [9] (fun i ws => ∃ k : Nat, k ≤ 4 ∧ i = .int .i64 k ∧ Hid (OwnB ws w.heap.size g cap (trn m0 I t k)) ∧ Hid (Below w.heap.size w ws)) (fun i _ => 4 - (intOf i).toNat)
  case atStart => exact ⟨0, Nat.zero_le _, rfl, HO, HB2⟩
  case round =>
    obtain ⟨k, hk, rfl, hO, hB⟩ := hrel
    by_cases hlt : k < 4
    · have hlen := trn_len m0 I t k
      have hck := hO.out.cell (I + k) (by rw [hlen, H0.out]; omega)
      have hfz := hO.out.frozen (I + k)
      have hc := bytes_get _ (I + k) hO.out.byte
      have hx := Gf.x_lt _ (t / 2 ^ (8 * k) % 2 ^ 8) hc (by omega)
      have HST := Lib.hid (hO.out.stored (I + k) _ hx)
      have HT : Hid (trn m0 I t (k + 1) = (trn m0 I t k).set (I + k) ((trn m0 I t k).getD (I + k) 0 ^^^ t / 2 ^ (8 * k) % 2 ^ 8)) := rfl
      have HX : Hid (bits BinOp.xor IntKind.u8 (((trn m0 I t k).getD (I + k) 0 : Nat) : Int) ((t : Int) / 2 ^ (8 * k) % 256) = (((trn m0 I t k).getD (I + k) 0 ^^^ t / 2 ^ (8 * k) % 2 ^ 8 : Nat) : Int)) := by
        show _ = _
        rw [← u8_xor_nat _ (t / 2 ^ (8 * k) % 2 ^ 8) hc (by omega)]
        simp
      clear hx hc hlen
      generalize (trn m0 I t k).getD (I + k) 0 = c at *
      go_wp2
      rw [HX.out]
      refine ⟨⟨k + 1, by omega, by go_num, ?_, ?_⟩, by simp [intOf]; omega⟩
      · rw [HT.out]; exact HST.out.1
      · exact HST.out.2.below hB.out hB.out.size (by simp; omega)
    · obtain rfl : k = 4 := by omega
      have HS0 := Lib.hid (S0.out.below hB.out)
      have HSC : Hid (SeenAt wr (some ⟨g, 0, none⟩) cap (trn m0 I t 4)) := hO.out.seenAt
      have HLC : Hid ((trn m0 I t 4).length = l0) := by show _ = _; rw [trn_len]; exact H0.out
      have hne : (((Crc.sum (trn m0 I t 4) : Nat) : Int) != ((Crc.sum m0 : Nat) : Int)) = true := by
        have := trn_turned m0 I t (by rw [H0.out]; exact hI4) S0.out.byte ht ht0
        simp
        omega
      clear hO
      generalize trn m0 I t 4 = tr at *
      go_wp2_with fail
      refine (awake_any _).mono ?_
      rintro e w3 ⟨rfl, hb3⟩
      have HB3 := Lib.hid (hB.out.trans (hb3.mono hB.out.size))
      have U0 := Lib.hid (HS0.out.below hb3)
      have UC := Lib.hid (HSC.out.below hb3)
      clear hb3
      go_wp2_with fail
      refine (of_any _ _ _ tr _ HLC.out UC.out).mono ?_
      rintro e w' ⟨rfl, rfl⟩
      go_wp2_with fail
      refine (of_any _ _ _ m0 _ H0.out U0.out).mono ?_
      rintro e w' ⟨rfl, rfl⟩
      go_wp2
      go_ret
      exact ⟨rfl, HB3.out⟩

theorem sumFinds_walk (a0 : Option Addr) (len0 cap0 : Nat) (m0 : List Nat) (a1 a2 : Int) (w : World) (w0 : m0.length = len0 ∧ SeenAt w a0 cap0 m0) (w1 : (Lit.int .u16 a1).wf = true) (w2 : (Lit.int .u32 a2).wf = true) :
    Calls Try.prog 5 #[.slice a0 len0 cap0, .int .u16 a1, .int .u32 a2] w fun e w' => e = .returned (.bool true) ∧ Below w.heap.size w w' := by
  have h0 : len0 ≤ maxLen := by have := w0.1; have := w0.2.le; have := w0.2.max; omega
  have e1 : 0 ≤ a1 ∧ a1 ≤ 65535 := by simpa [Lit.wf, IntKind.min, IntKind.max, IntKind.signed, IntKind.bits] using w1
  have e2 : 0 ≤ a2 ∧ a2 ≤ 4294967295 := by simpa [Lit.wf, IntKind.min, IntKind.max, IntKind.signed, IntKind.bits] using w2
  obtain ⟨p, rfl⟩ : ∃ p : Nat, a1 = (p : Int) := ⟨a1.toNat, by omega⟩
  obtain ⟨t, rfl⟩ : ∃ t : Nat, a2 = (t : Int) := ⟨a2.toNat, by omega⟩
  by_cases h : len0 < 4 ∨ 2000 < len0 ∨ t = 0
  · exact sumFinds_none a0 len0 cap0 p t w h h0
  · exact sumFinds_some a0 len0 cap0 p t m0 w (by omega) (by omega) (by omega) (by omega) (by omega) w0.1 w0.2

end Go.Proofs.Ytcbnpihhcjgcfaa
