/-
  book: word, number, bytes.HasPrefix.
-/
import Derived.Test.YtdgpbdedaafdiaaBk
import Derived.Test.YtdgpbdedaafdiaaWalksU1
import Derived.Test.YtdgpbdedaafdiaaWalksZ1
import Derived.Test.YtdgpbdedaafdiaaWalksZ2
import Derived.Test.YtdgpbdedaafdiaaDk2
namespace Go.Proofs.Ytdgpbdedaafdiaa
open Go.RowKit


/-- Bytes from place n on. -/
theorem SeenAt.behind {w : World} {b off c n : Nat} {ps : List Nat} (h : SeenAt w (some ⟨b, off, none⟩) c ps) (hn : n ≤ c) : SeenAt w (some ⟨b, off + n, none⟩) (c - n) (ps.drop n) :=
  ⟨by have := h.le; rw [List.length_drop]; omega, by have := h.max; omega, bytes_drop h.byte n, fun i hi => by
    rw [List.length_drop] at hi
    obtain ⟨b', off', e, hc⟩ := h.cell (n + i) (by omega)
    cases e
    refine ⟨b, off + n, rfl, ?_⟩
    rw [List.getD_eq_getElem?_getD, List.getElem?_drop, ← List.getD_eq_getElem?_getD, Nat.add_assoc]
    exact hc⟩

theorem i64_or_byte (n x : Nat) (hn : n < 16777216) (hx : x < 256) : bits BinOp.or IntKind.i64 ((n : Int) * 256) (x : Int) = ((n * 256 + x : Nat) : Int) := by
  have e : (n : Int) * 256 = ((n * 256 : Nat) : Int) := by omega
  rw [e]
  have h := (bits_nat .i64 40 (by decide) (fun n h0 h1 => by rw [IntKind.wrap_i64]; omega) (n * 256) x (by omega) (by omega)).2
  rw [h]
  have := Nat.shiftLeft_add_eq_or_of_lt (i := 8) (b := x) hx n
  rw [Nat.shiftLeft_eq] at this
  rw [this]

def numk (bs : List Nat) : Nat := bs.foldl (fun n x => n * 256 + x) 0

theorem numk_snoc (bs : List Nat) (x : Nat) : numk (bs ++ [x]) = numk bs * 256 + x := by
  unfold numk
  rw [List.foldl_append]
  rfl

theorem numk_lt (ps : List Nat) (hB : Gf.Bytes ps) : ∀ k, k ≤ ps.length → numk (ps.take k) < 256 ^ k
  | 0, _ => by simp [numk]
  | k + 1, h => by
    have h1 := numk_lt ps hB k (by omega)
    have h2 := bytes_get ps k hB
    rw [take_sn ps k (by omega), numk_snoc, Nat.pow_succ]
    omega

theorem numk_four (ps : List Nat) (hl : ps.length = 4) : numk ps = num4 ps := by
  match ps, hl with
  | [a, b, c, d], _ =>
    simp [numk, num4]
    omega

set_option maxHeartbeats 1000000 in
theorem bkNumber_any (a : Option Addr) (cap : Nat) (ps : List Nat) (w : World) (hl : ps.length = 4) (h : SeenAt w a cap ps) :
    Calls Try.prog 61 #[.slice a 4 cap] w fun e w' => e = .returned (.int .i64 ((num4 ps : Nat) : Int)) ∧ w = w' := by
  have HC := Lib.hid h.cell
  have HB := Lib.hid h.byte
  have HL := Lib.hid hl
  have HF := Lib.hid (numk_four ps hl)
  clear h hl
  go_enter Try.func61, Try.ntmps61
  go_wp2
  go_loop [3, 5, 8] (fun v _ i => ∃ k : Nat, k ≤ 4 ∧ i = .int .i64 k ∧ v = .int .i64 ((numk (ps.take k) : Nat) : Int)) (fun _ _ i => 4 - (intOf i).toNat)
  case atStart => exact ⟨0, Nat.zero_le _, rfl, rfl⟩
  case round =>
    obtain ⟨k, hk, rfl, rfl⟩ := hrel
    by_cases hlt : k < 4
    · obtain ⟨b, off, rfl, hck⟩ := HC.out k (by rw [HL.out]; exact hlt)
      have hc := bytes_get ps k HB.out
      have hr : numk (ps.take k) < 16777216 := Nat.lt_of_lt_of_le (numk_lt ps HB.out k (by rw [HL.out]; omega)) (Nat.pow_le_pow_right (by omega) (show k ≤ 3 by omega))
      have HS : Hid (numk (ps.take (k + 1)) = numk (ps.take k) * 256 + ps.getD k 0) := by
        show _ = _
        rw [take_sn ps k (by rw [HL.out]; exact hlt), numk_snoc]
      generalize ps.getD k 0 = c at *
      generalize numk (ps.take k) = r at *
      have HX := Lib.hid (i64_or_byte r c hr hc)
      go_wp2_with fail
      go_round
      case rel => exact ⟨k + 1, by omega, by go_num, by rw [HS.out, HX.out]⟩
      case measure => simp [intOf]; omega
    · obtain rfl : k = 4 := by omega
      have HT : Hid (ps.take 4 = ps) := List.take_of_length_le (by rw [HL.out]; omega)
      rw [HT.out]
      go_wp2
      go_ret
      exact ⟨by rw [HF.out]; rfl, rfl⟩

/-- bytes.HasPrefix. -/
theorem prefix_any (a a' : Option Addr) (c c' l l' : Nat) (ps qs : List Nat) (w : World) (hl : ps.length = l) (hl' : qs.length = l') (h : SeenAt w a c ps) (h' : SeenAt w a' c' qs) :
    Calls Try.prog 62 #[.slice a l c, .slice a' l' c'] w fun e w' => e = .returned (.bool (decide (qs = ps.take l'))) ∧ w = w' := by
  have hm : l ≤ maxLen := by have := h.le; have := h.max; omega
  have hm' : l' ≤ maxLen := by have := h'.le; have := h'.max; omega
  unfold maxLen at hm hm'
  have HS := Lib.hid h
  have HS' := Lib.hid h'
  have HL := Lib.hid hl
  have HL' := Lib.hid hl'
  by_cases hle : l' ≤ l
  · have hd : decide ((l' : Int) ≤ (l : Int)) = true := by simp; omega
    have hd' : decide (l' ≤ l) = true := by simp; omega
    have hsl := seen_take a l c l' ps w hl h hle
    have HF : Hid (decide (ps.take l' = qs) = decide (qs = ps.take l')) := by show _ = _; rw [Bool.eq_iff_iff, decide_eq_true_iff, decide_eq_true_iff]; exact eq_comm
    have HT : Hid ((ps.take l').length = l') := by show _ = _; rw [List.length_take]; omega
    clear h h' hl hl'
    go_enter Try.func62, Try.ntmps62
    go_wp2_with fail
    refine (equal_any _ _ _ _ _ _ (ps.take l') qs _ HT.out HL'.out (HS.out.take l') HS'.out).mono ?_
    rintro e w' ⟨rfl, rfl⟩
    go_wp2
    go_ret
    exact ⟨ret_boolean HF.out, rfl⟩
  · have hd : decide ((l' : Int) ≤ (l : Int)) = false := by simp; omega
    have hd' : decide (l' ≤ l) = false := by simp; omega
    have HF : Hid (false = decide (qs = ps.take l')) := by
      show _ = _
      symm
      rw [decide_eq_false_iff_not]
      intro e
      have := congrArg List.length e
      rw [List.length_take] at this
      omega
    clear h h' hl hl'
    go_enter Try.func62, Try.ntmps62
    go_wp2
    go_ret
    exact ⟨ret_boolean HF.out, rfl⟩

end Go.Proofs.Ytdgpbdedaafdiaa
