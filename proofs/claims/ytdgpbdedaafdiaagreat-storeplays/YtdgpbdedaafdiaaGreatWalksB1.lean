/-
  book: word, number, bytes.HasPrefix.
  book: frame, first.
  book: valid.
-/
import Derived.Test.YtdgpbdedaafdiaaGreatBk
import Derived.Test.YtdgpbdedaafdiaaGreatWalksU1
import Derived.Test.YtdgpbdedaafdiaaGreatWalksZ1
import Derived.Test.YtdgpbdedaafdiaaGreatWalksZ2
import Derived.Test.YtdgpbdedaafdiaaGreatDk2
import Derived.Test.YtdgpbdedaafdiaaGreatDk
import Derived.ScopeJumps
import Derived.WalkMore
namespace Go.Proofs.YtdgpbdedaafdiaaGreat
open Go.RowKit


/-- Bytes from place n on. -/
theorem SeenAt.behind {w : World} {b off c n : Nat} {ps : List Nat} (h : SeenAt w (some ⟨b, off, none⟩) c ps) (hn : n ≤ c) : SeenAt w (some ⟨b, off + n, none⟩) (c - n) (ps.drop n) :=
  ⟨by have := h.le; rw [List.length_drop]; omega, by have := h.max; omega, bytes_drop h.byte n, fun i hi => by
    rw [List.length_drop] at hi
    obtain ⟨b', off', e, hc⟩ := h.cell (n + i) (by omega)
    cases e
    refine ⟨b, off + n, rfl, ?_⟩
    rw [List.getD_eq_getElem?_getD, List.getElem?_drop, ← List.getD_eq_getElem?_getD, Nat.add_assoc]
    exact hc⟩

theorem i64_or_byte (n x : Nat) (hn : n < 16777216) (hx : x < 256) : bits BinOp.or IntKind.i64 ((n : Int) * 256) (x : Int) = ((n * 256 + x : Nat) : Int) := by
  have e : (n : Int) * 256 = ((n * 256 : Nat) : Int) := by omega
  rw [e]
  have h := (bits_nat .i64 40 (by decide) (fun n h0 h1 => by rw [IntKind.wrap_i64]; omega) (n * 256) x (by omega) (by omega)).2
  rw [h]
  have := Nat.shiftLeft_add_eq_or_of_lt (i := 8) (b := x) hx n
  rw [Nat.shiftLeft_eq] at this
  rw [this]

def numk (bs : List Nat) : Nat := bs.foldl (fun n x => n * 256 + x) 0

theorem numk_snoc (bs : List Nat) (x : Nat) : numk (bs ++ [x]) = numk bs * 256 + x := by
  unfold numk
  rw [List.foldl_append]
  rfl

theorem numk_lt (ps : List Nat) (hB : Gf.Bytes ps) : ∀ k, k ≤ ps.length → numk (ps.take k) < 256 ^ k
  | 0, _ => by simp [numk]
  | k + 1, h => by
    have h1 := numk_lt ps hB k (by omega)
    have h2 := bytes_get ps k hB
    rw [take_sn ps k (by omega), numk_snoc, Nat.pow_succ]
    omega

theorem numk_four (ps : List Nat) (hl : ps.length = 4) : numk ps = num4 ps := by
  match ps, hl with
  | [a, b, c, d], _ =>
    simp [numk, num4]
    omega

set_option maxHeartbeats 1000000 in
theorem bkNumber_any (a : Option Addr) (cap : Nat) (ps : List Nat) (w : World) (hl : ps.length = 4) (h : SeenAt w a cap ps) :
    Calls Tryz.prog 68 #[.slice a 4 cap] w fun e w' => e = .returned (.int .i64 ((num4 ps : Nat) : Int)) ∧ w = w' := by
  have HC := Lib.hid h.cell
  have HB := Lib.hid h.byte
  have HL := Lib.hid hl
  have HF := Lib.hid (numk_four ps hl)
  clear h hl
  go_enter Tryz.func68, Tryz.ntmps68
  go_wp2
  go_loop [3, 5, 8] (fun v _ i => ∃ k : Nat, k ≤ 4 ∧ i = .int .i64 k ∧ v = .int .i64 ((numk (ps.take k) : Nat) : Int)) (fun _ _ i => 4 - (intOf i).toNat)
  case atStart => exact ⟨0, Nat.zero_le _, rfl, rfl⟩
  case round =>
    obtain ⟨k, hk, rfl, rfl⟩ := hrel
    by_cases hlt : k < 4
    · obtain ⟨b, off, rfl, hck⟩ := HC.out k (by rw [HL.out]; exact hlt)
      have hc := bytes_get ps k HB.out
      have hr : numk (ps.take k) < 16777216 := Nat.lt_of_lt_of_le (numk_lt ps HB.out k (by rw [HL.out]; omega)) (Nat.pow_le_pow_right (by omega) (show k ≤ 3 by omega))
      have HS : Hid (numk (ps.take (k + 1)) = numk (ps.take k) * 256 + ps.getD k 0) := by
        show _ = _
        rw [take_sn ps k (by rw [HL.out]; exact hlt), numk_snoc]
      generalize ps.getD k 0 = c at *
      generalize numk (ps.take k) = r at *
      have HX := Lib.hid (i64_or_byte r c hr hc)
      go_wp2_with fail
      go_round
      case rel => exact ⟨k + 1, by omega, by go_num, by rw [HS.out, HX.out]⟩
      case measure => simp [intOf]; omega
    · obtain rfl : k = 4 := by omega
      have HT : Hid (ps.take 4 = ps) := List.take_of_length_le (by rw [HL.out]; omega)
      rw [HT.out]
      go_wp2
      go_ret
      exact ⟨by rw [HF.out]; rfl, rfl⟩

/-- bytes.HasPrefix. -/
theorem prefix_any (a a' : Option Addr) (c c' l l' : Nat) (ps qs : List Nat) (w : World) (hl : ps.length = l) (hl' : qs.length = l') (h : SeenAt w a c ps) (h' : SeenAt w a' c' qs) :
    Calls Tryz.prog 69 #[.slice a l c, .slice a' l' c'] w fun e w' => e = .returned (.bool (decide (qs = ps.take l'))) ∧ w = w' := by
  have hm : l ≤ maxLen := by have := h.le; have := h.max; omega
  have hm' : l' ≤ maxLen := by have := h'.le; have := h'.max; omega
  unfold maxLen at hm hm'
  have HS := Lib.hid h
  have HS' := Lib.hid h'
  have HL := Lib.hid hl
  have HL' := Lib.hid hl'
  by_cases hle : l' ≤ l
  · have hd : decide ((l' : Int) ≤ (l : Int)) = true := by simp; omega
    have hd' : decide (l' ≤ l) = true := by simp; omega
    have hsl := seen_take a l c l' ps w hl h hle
    have HF : Hid (decide (ps.take l' = qs) = decide (qs = ps.take l')) := by show _ = _; rw [Bool.eq_iff_iff, decide_eq_true_iff, decide_eq_true_iff]; exact eq_comm
    have HT : Hid ((ps.take l').length = l') := by show _ = _; rw [List.length_take]; omega
    clear h h' hl hl'
    go_enter Tryz.func69, Tryz.ntmps69
    go_wp2_with fail
    refine (equal_any _ _ _ _ _ _ (ps.take l') qs _ HT.out HL'.out (HS.out.take l') HS'.out).mono ?_
    rintro e w' ⟨rfl, rfl⟩
    go_wp2
    go_ret
    exact ⟨ret_boolean HF.out, rfl⟩
  · have hd : decide ((l' : Int) ≤ (l : Int)) = false := by simp; omega
    have hd' : decide (l' ≤ l) = false := by simp; omega
    have HF : Hid (false = decide (qs = ps.take l')) := by
      show _ = _
      symm
      rw [decide_eq_false_iff_not]
      intro e
      have := congrArg List.length e
      rw [List.length_take] at this
      omega
    clear h h' hl hl'
    go_enter Tryz.func69, Tryz.ntmps69
    go_wp2
    go_ret
    exact ⟨ret_boolean HF.out, rfl⟩

end Go.Proofs.YtdgpbdedaafdiaaGreat

namespace Go.Proofs.YtdgpbdedaafdiaaGreat
open Go.RowKit


theorem blk_from (a : Option Addr) (c n : Nat) : blk (fromA a c n) = blk a := by
  unfold fromA
  split
  · rfl
  · rcases a with _ | ⟨b, off, sp⟩
    · rfl
    · show [(Addr.add _ n).block] = [b]
      unfold Addr.add
      split <;> rfl

set_option maxRecDepth 100000 in
set_option maxHeartbeats 1000000 in
theorem bkFrame_any (a : Option Addr) (cap l : Nat) (c : List Nat) (w : World) (hl : c.length = l) (hm : l ≤ 100000000) (h : SeenAt w a cap c) :
    Calls Tryz.prog 70 #[.slice a l cap] w (RetO w (frm c)) := by
  have HS := Lib.hid h
  have HL := Lib.hid hl
  have HF : Hid (frm c = [be4 l, be4 (Crc.sum (be4 l ++ c)), c].flatten) := by show _ = _; unfold frm; rw [hl]; simp
  have HC : Hid (Crc.sum (be4 l ++ c) < 4294967296) := Crc.sum_lt _ (bytes_app' (be4_bytes _) h.byte)
  have hx : (l : Int) % 4294967296 = (l : Int) := by omega
  clear h hl
  go_enter Tryz.func70, Tryz.ntmps70
  go_wp2_with fail
  refine (word_any l _ (by omega)).mono ?_
  rintro e w1 ⟨g1, c1, rfl, ho1, hb1⟩
  have HO1 := Lib.hid ho1
  have E1 : Hid (Ext w w1) := hb1
  have HG := Lib.hid (rows_two ho1.seenAt (HS.out.below hb1))
  rw [HL.out] at HG
  rw [be4_len]
  rw [be4_len] at HG
  clear ho1 hb1
  go_wp2_with fail
  refine (concat_own _ 2 2 _ _ rfl HG.out (by simp [be4]) (by have := HL.out; simp [be4]; omega)).mono ?_
  rintro e w2 ⟨g2, c2, rfl, ho2, hb2⟩
  have hq2 : ([be4 l, c].flatten) = be4 l ++ c := by simp
  rw [hq2] at ho2 ⊢
  have HL2 : Hid ((be4 l ++ c).length = 4 + l) := by show _ = _; rw [List.length_append, be4_len, HL.out]
  rw [HL2.out]
  have E2 := Lib.hid ((E1.out.trans (below_one w1 _)).trans hb2)
  have HS2 := Lib.hid ho2.seenAt
  have HO2 := Lib.hid ((HO1.out.chg (gs := []) (Chg.of_below (below_one w1 (.cells #[.slice (some ⟨g1, 0, none⟩) 4 c1, .slice a l cap] 39))) (by simp)).chg (gs := []) (Chg.of_below hb2) (by simp))
  clear ho2 hb2 HG HO1 E1 hq2
  generalize be4 l ++ c = A2 at *
  go_wp2_with fail
  refine (of_any _ _ _ A2 _ HL2.out HS2.out).mono ?_
  rintro e w' ⟨rfl, rfl⟩
  have HC' := HC.out
  go_wp2_with fail
  generalize Crc.sum A2 = S at *
  refine (word_any S _ HC').mono ?_
  rintro e w3 ⟨g3, c3, rfl, ho3, hb3⟩
  have E3 := Lib.hid (E2.out.trans hb3)
  have HG3 := Lib.hid (rows_three (HO2.out.chg (gs := []) (Chg.of_below hb3) (by simp)).seenAt ho3.seenAt (HS.out.below E3.out))
  rw [be4_len, be4_len, HL.out] at HG3
  rw [be4_len]
  clear ho3 hb3 E2 HS2
  go_wp2_with fail
  refine (concat_own _ 3 3 _ _ rfl HG3.out (by simp [be4]) (by have := HL.out; simp [be4]; omega)).mono ?_
  intro e w4 h4
  have HR := Lib.hid (h4.later (Below.trans E3.out (Below.mono (below_one w3 _) E3.out.size)) (qs := frm c) HF.out.symm)
  clear HG3
  obtain ⟨g4, c4, rfl, _⟩ := h4
  rw [← HF.out] at HR ⊢
  generalize (frm c).length = q4 at *
  go_wp2
  go_ret
  exact HR.out

theorem RetO.grow {w w' : World} {g c q : Nat} {ps : List Nat} (h : OwnB w' w.heap.size g c ps) (hb : Below w.heap.size w w') (e : ps.length = q) : RetO w ps (.returned (.slice (some ⟨g, 0, none⟩) q c)) w' := by
  subst e
  exact ⟨g, c, rfl, h, hb⟩

/-- What first answers where there is no frame. -/
theorem first_short (a : Option Addr) (cap l : Nat) (w : World) (h : l < 8) :
    Calls Tryz.prog 53 #[.slice a l cap] w fun e w' => e = .returned (.tuple #[.slice none 0 0, .bool false]) ∧ Below w.heap.size w w' := by
  have hd : decide ((l : Int) < 8) = true := by simp; omega
  go_enter Tryz.func53, Tryz.ntmps53
  go_wp2
  go_ret2
  exact ⟨rfl, Below.refl _ _⟩

/-- What first answers where there is a frame. -/
def RetF (w : World) (a : Option Addr) (c : List Nat) (e : Ending) (w' : World) : Prop :=
  ∃ x q, e = .returned (.tuple #[.slice x c.length q, .bool true]) ∧ blk x = blk a ∧ SeenAt w' x q c ∧ Below w.heap.size w w'


set_option maxRecDepth 100000 in
set_option maxHeartbeats 1000000 in
theorem first_over (a : Option Addr) (cap l : Nat) (b : List Nat) (w : World) (hl : b.length = l) (h : SeenAt w a cap b) (h8 : 8 ≤ l) (hm : l ≤ 100000000) (hn : l - 8 < num4 b) :
    Calls Tryz.prog 53 #[.slice a l cap] w fun e w' => e = .returned (.tuple #[.slice none 0 0, .bool false]) ∧ Below w.heap.size w w' := by
  have hd : decide ((l : Int) < 8) = false := by simp; omega
  have hle := h.le
  have hmax := h.max
  unfold maxLen at hmax
  obtain ⟨b0, off, rfl, _⟩ := h.cell 0 (by omega)
  have HS := Lib.hid h
  have HL := Lib.hid hl
  have HB := Lib.hid h.byte
  have HNT : Hid (num4 (b.take 4) = num4 b) := num4_take b 4 (by omega)
  have HN4 := Lib.hid (num4_lt b h.byte)
  have HT4 : Hid ((b.take 4).length = 4) := by show _ = _; rw [List.length_take]; omega
  have HA : Hid (∀ wq : World, (Instr.slice 39 (.slice (some ⟨b0, off, none⟩) l cap) none (some (.int .i64 4)) none).run Tryz.prog wq = .ok (.slice (some ⟨b0, off, none⟩) 4 cap) wq) := fun wq => slice_toD b0 off l cap 4 (by omega) wq
  have HA' : Hid (∀ wq : World, (Instr.sliceAt 39 (.slice (some ⟨b0, off, none⟩) l cap) none (some (.int .i64 4)) none).run Tryz.prog wq = .ok (.slice (some ⟨b0, off, none⟩) 4 cap) wq) := fun wq => slice_toD' b0 off l cap 4 (by omega) wq
  have HR : Hid (∀ wq : World, (Instr.slice 39 (.slice (some ⟨b0, off, none⟩) l cap) (some (.int .i64 8)) none none).run Tryz.prog wq = .ok (.slice (fromA (some ⟨b0, off, none⟩) cap 8) (l - 8) (cap - 8)) wq) := fun wq => slice_from _ l cap 8 (by omega) wq
  have HR' : Hid (∀ wq : World, (Instr.sliceAt 39 (.slice (some ⟨b0, off, none⟩) l cap) (some (.int .i64 8)) none none).run Tryz.prog wq = .ok (.slice (fromA (some ⟨b0, off, none⟩) cap 8) (l - 8) (cap - 8)) wq) := fun wq => slice_from' _ l cap 8 (by omega) wq
  have HSR := Lib.hid (h.from 8 (by omega))
  have HBL := Lib.hid (blk_from (some ⟨b0, off, none⟩) cap 8)
  clear h hl
  go_enter Tryz.func53, Tryz.ntmps53
  go_wp2_with fail
  refine wp_region_ext (by kernel_rfl) ?_
  refine wpAnyH_tk (i := 0) 12 (v := ?_) rfl rfl (by kernel_rfl) (by kernel_rfl) (by kernel_rfl) (by rfl) (fun wq hwq => ?_) ?_
  rotate_left
  · (go_simp <;> with_reducible rfl)
  simp only [List.setIfInBounds_toArray, List.set_cons_zero, List.set_cons_succ]
  refine wpAnyH_tk (i := 1) 13 (v := ?_) rfl rfl (by kernel_rfl) (by kernel_rfl) (by kernel_rfl) (by rfl) (fun wq hwq => ?_) ?_
  rotate_left
  · (have hx := HA.out wq; go_simp <;> with_reducible rfl)
  simp only [List.setIfInBounds_toArray, List.set_cons_zero, List.set_cons_succ]
  refine wpAnyH_tk (i := 3) 15 (v := ?_) rfl rfl (by kernel_rfl) (by kernel_rfl) (by kernel_rfl) (by rfl) (fun wq hwq => ?_) ?_
  rotate_left
  · (go_simp <;> with_reducible rfl)
  simp only [List.setIfInBounds_toArray, List.set_cons_zero, List.set_cons_succ]
  refine wpAnyH_tk (i := 4) 16 (v := ?_) rfl rfl (by kernel_rfl) (by kernel_rfl) (by kernel_rfl) (by rfl) (fun wq hwq => ?_) ?_
  rotate_left
  · (have hx := HR.out wq; go_simp <;> with_reducible rfl)
  simp only [List.setIfInBounds_toArray, List.set_cons_zero, List.set_cons_succ]
  refine wpAnyH_one (i := 2) rfl (by kernel_rfl) (by rfl) (fun K hK => ?_)
  go_simp
  refine (bkNumber_any _ _ (b.take 4) _ HT4.out ((HS.out.drewN 1).take 4)).mono ?_
  rintro e w' ⟨rfl, rfl⟩
  rw [HNT.out]
  refine hK.out _ _ (Below.refl _ _) ?_
  clear hK K
  refine wpAnyH_tk (i := 5) 4 (v := ?_) rfl rfl (by kernel_rfl) (by kernel_rfl) (by kernel_rfl) (by rfl) (fun wq hwq => ?_) ?_
  rotate_left
  · (go_simp <;> with_reducible rfl)
  simp only [List.setIfInBounds_toArray, List.set_cons_zero, List.set_cons_succ]
  refine wpAnyH_tk (i := 6) 5 (v := ?_) rfl rfl (by kernel_rfl) (by kernel_rfl) (by kernel_rfl) (by rfl) (fun wq hwq => ?_) ?_
  rotate_left
  · (go_simp <;> with_reducible rfl)
  simp only [List.setIfInBounds_toArray, List.set_cons_zero, List.set_cons_succ]
  refine wpAnyH_done (by kernel_rfl) ?_ _
  refine NoPanic.normal ?_
  have hdn : decide (((l - 8 : Nat) : Int) < (num4 b : Int)) = true := by simp; omega
  have hdn' : decide ((l - 8 : Nat) < num4 b) = true := by simp; omega
  go_wp2
  go_ret2
  exact ⟨rfl, (Below.refl _ _).drew⟩

/-- The record's bytes: first finds them. -/
structure Inn (b c : List Nat) (n l : Nat) : Prop where
  num : num4 b = n
  inn : (b.drop 8).take n = c
  len : c.length = n
  fit : 8 + n ≤ l

theorem inn_at (b : List Nat) (l : Nat) (hl : b.length = l) (h8 : 8 ≤ l) (hn : num4 b ≤ l - 8) : Inn b (inn b) (num4 b) l :=
  ⟨rfl, rfl, by unfold inn; rw [List.length_take, List.length_drop]; omega, by omega⟩


set_option maxRecDepth 100000 in
set_option maxHeartbeats 1000000 in
theorem first_form (a : Option Addr) (cap l n : Nat) (b c : List Nat) (w : World) (hl : b.length = l) (h : SeenAt w a cap b) (h8 : 8 ≤ l) (hm : l ≤ 100000000) (hi : Inn b c n l) (hp : decide (frm c = b.take (8 + n)) = false) :
    Calls Tryz.prog 53 #[.slice a l cap] w fun e w' => e = .returned (.tuple #[.slice none 0 0, .bool false]) ∧ Below w.heap.size w w' := by
  have HI := Lib.hid hi
  have HP := Lib.hid hp
  clear hi hp
  have hd : decide ((l : Int) < 8) = false := by simp; omega
  have hle := h.le
  have hmax := h.max
  unfold maxLen at hmax
  obtain ⟨b0, off, rfl, _⟩ := h.cell 0 (by omega)
  have HS := Lib.hid h
  have HL := Lib.hid hl
  have HB := Lib.hid h.byte
  have HNT : Hid (num4 (b.take 4) = num4 b) := num4_take b 4 (by omega)
  have HN4 := Lib.hid (num4_lt b h.byte)
  have HT4 : Hid ((b.take 4).length = 4) := by show _ = _; rw [List.length_take]; omega
  have HA : Hid (∀ wq : World, (Instr.slice 39 (.slice (some ⟨b0, off, none⟩) l cap) none (some (.int .i64 4)) none).run Tryz.prog wq = .ok (.slice (some ⟨b0, off, none⟩) 4 cap) wq) := fun wq => slice_toD b0 off l cap 4 (by omega) wq
  have HA' : Hid (∀ wq : World, (Instr.sliceAt 39 (.slice (some ⟨b0, off, none⟩) l cap) none (some (.int .i64 4)) none).run Tryz.prog wq = .ok (.slice (some ⟨b0, off, none⟩) 4 cap) wq) := fun wq => slice_toD' b0 off l cap 4 (by omega) wq
  have HR : Hid (∀ wq : World, (Instr.slice 39 (.slice (some ⟨b0, off, none⟩) l cap) (some (.int .i64 8)) none none).run Tryz.prog wq = .ok (.slice (fromA (some ⟨b0, off, none⟩) cap 8) (l - 8) (cap - 8)) wq) := fun wq => slice_from _ l cap 8 (by omega) wq
  have HR' : Hid (∀ wq : World, (Instr.sliceAt 39 (.slice (some ⟨b0, off, none⟩) l cap) (some (.int .i64 8)) none none).run Tryz.prog wq = .ok (.slice (fromA (some ⟨b0, off, none⟩) cap 8) (l - 8) (cap - 8)) wq) := fun wq => slice_from' _ l cap 8 (by omega) wq
  have HSR := Lib.hid (h.from 8 (by omega))
  have HBL := Lib.hid (blk_from (some ⟨b0, off, none⟩) cap 8)
  clear h hl
  go_enter Tryz.func53, Tryz.ntmps53
  go_wp2_with fail
  refine wp_region_ext (by kernel_rfl) ?_
  refine wpAnyH_tk (i := 0) 12 (v := ?_) rfl rfl (by kernel_rfl) (by kernel_rfl) (by kernel_rfl) (by rfl) (fun wq hwq => ?_) ?_
  rotate_left
  · (go_simp <;> with_reducible rfl)
  simp only [List.setIfInBounds_toArray, List.set_cons_zero, List.set_cons_succ]
  refine wpAnyH_tk (i := 1) 13 (v := ?_) rfl rfl (by kernel_rfl) (by kernel_rfl) (by kernel_rfl) (by rfl) (fun wq hwq => ?_) ?_
  rotate_left
  · (have hx := HA.out wq; go_simp <;> with_reducible rfl)
  simp only [List.setIfInBounds_toArray, List.set_cons_zero, List.set_cons_succ]
  refine wpAnyH_tk (i := 3) 15 (v := ?_) rfl rfl (by kernel_rfl) (by kernel_rfl) (by kernel_rfl) (by rfl) (fun wq hwq => ?_) ?_
  rotate_left
  · (go_simp <;> with_reducible rfl)
  simp only [List.setIfInBounds_toArray, List.set_cons_zero, List.set_cons_succ]
  refine wpAnyH_tk (i := 4) 16 (v := ?_) rfl rfl (by kernel_rfl) (by kernel_rfl) (by kernel_rfl) (by rfl) (fun wq hwq => ?_) ?_
  rotate_left
  · (have hx := HR.out wq; go_simp <;> with_reducible rfl)
  simp only [List.setIfInBounds_toArray, List.set_cons_zero, List.set_cons_succ]
  refine wpAnyH_one (i := 2) rfl (by kernel_rfl) (by rfl) (fun K hK => ?_)
  go_simp
  refine (bkNumber_any _ _ (b.take 4) _ HT4.out ((HS.out.drewN 1).take 4)).mono ?_
  rintro e w' ⟨rfl, rfl⟩
  rw [HNT.out]
  refine hK.out _ _ (Below.refl _ _) ?_
  clear hK K
  refine wpAnyH_tk (i := 5) 4 (v := ?_) rfl rfl (by kernel_rfl) (by kernel_rfl) (by kernel_rfl) (by rfl) (fun wq hwq => ?_) ?_
  rotate_left
  · (go_simp <;> with_reducible rfl)
  simp only [List.setIfInBounds_toArray, List.set_cons_zero, List.set_cons_succ]
  refine wpAnyH_tk (i := 6) 5 (v := ?_) rfl rfl (by kernel_rfl) (by kernel_rfl) (by kernel_rfl) (by rfl) (fun wq hwq => ?_) ?_
  rotate_left
  · (go_simp <;> with_reducible rfl)
  simp only [List.setIfInBounds_toArray, List.set_cons_zero, List.set_cons_succ]
  refine wpAnyH_done (by kernel_rfl) ?_ _
  refine NoPanic.normal ?_
  have HI' := Lib.hid HI.out.inn
  have HD8L := HI.out.fit
  generalize HD8 : List.drop 8 b = b8 at *
  rw [HI.out.num]
  have HFIT := HI.out.fit
  have HCL := HI.out.len
  have hdn : decide (((l - 8 : Nat) : Int) < (n : Int)) = false := by simp; omega
  have hdn' : decide ((l - 8 : Nat) < n) = false := by simp; omega
  generalize fromA (some ⟨b0, off, none⟩) cap 8 = x at *
  have HL8 : Hid (b8.length = l - 8) := by show _ = _; rw [← HD8, List.length_drop, HL.out]
  have hsl := seen_take x (l - 8) (cap - 8) n b8 (w.drewN 1) HL8.out HSR.out (by omega)
  have hsl' := seen_take' x (l - 8) (cap - 8) n b8 (w.drewN 1) HL8.out HSR.out (by omega)
  have HS1 := Lib.hid (HS.out.drewN 1)
  have HC1 : Hid (SeenAt (w.drewN 1) x (cap - 8) c) := by have := (HSR.out.take n).drewN 1; rw [HI'.out] at this; exact this
  go_wp2_with fail
  refine (bkFrame_any _ _ _ c _ HCL (by omega) HC1.out).mono ?_
  rintro e w2 ⟨g2, c2, rfl, ho2, hb2⟩
  have E2 : Hid (Ext w w2) := Ext.trans (below_drewN w 1) hb2
  have HS2 := Lib.hid ho2.seenAt
  have HX2 := Lib.hid (HC1.out.below hb2)
  have HSB := Lib.hid (HS1.out.below hb2)
  have HFL := Lib.hid (frm_len c)
  clear ho2 hb2
  go_wp2_with fail
  refine (prefix_any _ _ _ _ _ _ b (frm c) _ HL.out rfl HSB.out HS2.out).mono ?_
  rintro e w' ⟨rfl, rfl⟩
  rw [HFL.out, HCL, HP.out]
  go_wp2
  go_ret2
  exact ⟨rfl, E2.out⟩

set_option maxRecDepth 100000 in
set_option maxHeartbeats 1000000 in
theorem first_bad (a : Option Addr) (cap l n : Nat) (b c : List Nat) (w : World) (hl : b.length = l) (h : SeenAt w a cap b) (h8 : 8 ≤ l) (hm : l ≤ 100000000) (hi : Inn b c n l) (hp : decide (frm c = b.take (8 + n)) = true) (hd : decB c = false) :
    Calls Tryz.prog 53 #[.slice a l cap] w fun e w' => e = .returned (.tuple #[.slice none 0 0, .bool false]) ∧ Below w.heap.size w w' := by
  have HI := Lib.hid hi
  have HP := Lib.hid hp
  have HDB := Lib.hid hd
  clear hi hp hd
  have hd : decide ((l : Int) < 8) = false := by simp; omega
  have hle := h.le
  have hmax := h.max
  unfold maxLen at hmax
  obtain ⟨b0, off, rfl, _⟩ := h.cell 0 (by omega)
  have HS := Lib.hid h
  have HL := Lib.hid hl
  have HB := Lib.hid h.byte
  have HNT : Hid (num4 (b.take 4) = num4 b) := num4_take b 4 (by omega)
  have HN4 := Lib.hid (num4_lt b h.byte)
  have HT4 : Hid ((b.take 4).length = 4) := by show _ = _; rw [List.length_take]; omega
  have HA : Hid (∀ wq : World, (Instr.slice 39 (.slice (some ⟨b0, off, none⟩) l cap) none (some (.int .i64 4)) none).run Tryz.prog wq = .ok (.slice (some ⟨b0, off, none⟩) 4 cap) wq) := fun wq => slice_toD b0 off l cap 4 (by omega) wq
  have HA' : Hid (∀ wq : World, (Instr.sliceAt 39 (.slice (some ⟨b0, off, none⟩) l cap) none (some (.int .i64 4)) none).run Tryz.prog wq = .ok (.slice (some ⟨b0, off, none⟩) 4 cap) wq) := fun wq => slice_toD' b0 off l cap 4 (by omega) wq
  have HR : Hid (∀ wq : World, (Instr.slice 39 (.slice (some ⟨b0, off, none⟩) l cap) (some (.int .i64 8)) none none).run Tryz.prog wq = .ok (.slice (fromA (some ⟨b0, off, none⟩) cap 8) (l - 8) (cap - 8)) wq) := fun wq => slice_from _ l cap 8 (by omega) wq
  have HR' : Hid (∀ wq : World, (Instr.sliceAt 39 (.slice (some ⟨b0, off, none⟩) l cap) (some (.int .i64 8)) none none).run Tryz.prog wq = .ok (.slice (fromA (some ⟨b0, off, none⟩) cap 8) (l - 8) (cap - 8)) wq) := fun wq => slice_from' _ l cap 8 (by omega) wq
  have HSR := Lib.hid (h.from 8 (by omega))
  have HBL := Lib.hid (blk_from (some ⟨b0, off, none⟩) cap 8)
  clear h hl
  go_enter Tryz.func53, Tryz.ntmps53
  go_wp2_with fail
  refine wp_region_ext (by kernel_rfl) ?_
  refine wpAnyH_tk (i := 0) 12 (v := ?_) rfl rfl (by kernel_rfl) (by kernel_rfl) (by kernel_rfl) (by rfl) (fun wq hwq => ?_) ?_
  rotate_left
  · (go_simp <;> with_reducible rfl)
  simp only [List.setIfInBounds_toArray, List.set_cons_zero, List.set_cons_succ]
  refine wpAnyH_tk (i := 1) 13 (v := ?_) rfl rfl (by kernel_rfl) (by kernel_rfl) (by kernel_rfl) (by rfl) (fun wq hwq => ?_) ?_
  rotate_left
  · (have hx := HA.out wq; go_simp <;> with_reducible rfl)
  simp only [List.setIfInBounds_toArray, List.set_cons_zero, List.set_cons_succ]
  refine wpAnyH_tk (i := 3) 15 (v := ?_) rfl rfl (by kernel_rfl) (by kernel_rfl) (by kernel_rfl) (by rfl) (fun wq hwq => ?_) ?_
  rotate_left
  · (go_simp <;> with_reducible rfl)
  simp only [List.setIfInBounds_toArray, List.set_cons_zero, List.set_cons_succ]
  refine wpAnyH_tk (i := 4) 16 (v := ?_) rfl rfl (by kernel_rfl) (by kernel_rfl) (by kernel_rfl) (by rfl) (fun wq hwq => ?_) ?_
  rotate_left
  · (have hx := HR.out wq; go_simp <;> with_reducible rfl)
  simp only [List.setIfInBounds_toArray, List.set_cons_zero, List.set_cons_succ]
  refine wpAnyH_one (i := 2) rfl (by kernel_rfl) (by rfl) (fun K hK => ?_)
  go_simp
  refine (bkNumber_any _ _ (b.take 4) _ HT4.out ((HS.out.drewN 1).take 4)).mono ?_
  rintro e w' ⟨rfl, rfl⟩
  rw [HNT.out]
  refine hK.out _ _ (Below.refl _ _) ?_
  clear hK K
  refine wpAnyH_tk (i := 5) 4 (v := ?_) rfl rfl (by kernel_rfl) (by kernel_rfl) (by kernel_rfl) (by rfl) (fun wq hwq => ?_) ?_
  rotate_left
  · (go_simp <;> with_reducible rfl)
  simp only [List.setIfInBounds_toArray, List.set_cons_zero, List.set_cons_succ]
  refine wpAnyH_tk (i := 6) 5 (v := ?_) rfl rfl (by kernel_rfl) (by kernel_rfl) (by kernel_rfl) (by rfl) (fun wq hwq => ?_) ?_
  rotate_left
  · (go_simp <;> with_reducible rfl)
  simp only [List.setIfInBounds_toArray, List.set_cons_zero, List.set_cons_succ]
  refine wpAnyH_done (by kernel_rfl) ?_ _
  refine NoPanic.normal ?_
  have HI' := Lib.hid HI.out.inn
  have HD8L := HI.out.fit
  generalize HD8 : List.drop 8 b = b8 at *
  rw [HI.out.num]
  have HFIT := HI.out.fit
  have HCL := HI.out.len
  have hdn : decide (((l - 8 : Nat) : Int) < (n : Int)) = false := by simp; omega
  have hdn' : decide ((l - 8 : Nat) < n) = false := by simp; omega
  generalize fromA (some ⟨b0, off, none⟩) cap 8 = x at *
  have HL8 : Hid (b8.length = l - 8) := by show _ = _; rw [← HD8, List.length_drop, HL.out]
  have hsl := seen_take x (l - 8) (cap - 8) n b8 (w.drewN 1) HL8.out HSR.out (by omega)
  have hsl' := seen_take' x (l - 8) (cap - 8) n b8 (w.drewN 1) HL8.out HSR.out (by omega)
  have HS1 := Lib.hid (HS.out.drewN 1)
  have HC1 : Hid (SeenAt (w.drewN 1) x (cap - 8) c) := by have := (HSR.out.take n).drewN 1; rw [HI'.out] at this; exact this
  go_wp2_with fail
  refine (bkFrame_any _ _ _ c _ HCL (by omega) HC1.out).mono ?_
  rintro e w2 ⟨g2, c2, rfl, ho2, hb2⟩
  have E2 : Hid (Ext w w2) := Ext.trans (below_drewN w 1) hb2
  have HS2 := Lib.hid ho2.seenAt
  have HX2 := Lib.hid (HC1.out.below hb2)
  have HSB := Lib.hid (HS1.out.below hb2)
  have HFL := Lib.hid (frm_len c)
  clear ho2 hb2
  go_wp2_with fail
  refine (prefix_any _ _ _ _ _ _ b (frm c) _ HL.out rfl HSB.out HS2.out).mono ?_
  rintro e w' ⟨rfl, rfl⟩
  rw [HFL.out, HCL, HP.out]
  go_wp2_with fail
  refine (decode_no _ _ _ c _ HCL (by omega) HX2.out HDB.out).mono ?_
  rintro e w3 ⟨rfl, hb3⟩
  have E3 := Lib.hid ((E2.out.trans hb3).trans (below_one w3 (.cells #[.int .i64 0, .int .i64 0, .slice none 0 0, .int .i64 0, .int .i64 0, .slice none 0 0] 35)))
  clear hb3
  go_wp2
  go_ret2
  exact ⟨rfl, E3.out⟩

set_option maxRecDepth 100000 in
set_option maxHeartbeats 1000000 in
theorem first_good (a : Option Addr) (cap l n : Nat) (b c : List Nat) (w : World) (hl : b.length = l) (h : SeenAt w a cap b) (h8 : 8 ≤ l) (hm : l ≤ 100000000) (hi : Inn b c n l) (hp : decide (frm c = b.take (8 + n)) = true) (hd : decB c = true) :
    Calls Tryz.prog 53 #[.slice a l cap] w (RetF w a c) := by
  have HI := Lib.hid hi
  have HP := Lib.hid hp
  have HDB := Lib.hid hd
  clear hi hp hd
  have hd : decide ((l : Int) < 8) = false := by simp; omega
  have hle := h.le
  have hmax := h.max
  unfold maxLen at hmax
  obtain ⟨b0, off, rfl, _⟩ := h.cell 0 (by omega)
  have HS := Lib.hid h
  have HL := Lib.hid hl
  have HB := Lib.hid h.byte
  have HNT : Hid (num4 (b.take 4) = num4 b) := num4_take b 4 (by omega)
  have HN4 := Lib.hid (num4_lt b h.byte)
  have HT4 : Hid ((b.take 4).length = 4) := by show _ = _; rw [List.length_take]; omega
  have HA : Hid (∀ wq : World, (Instr.slice 39 (.slice (some ⟨b0, off, none⟩) l cap) none (some (.int .i64 4)) none).run Tryz.prog wq = .ok (.slice (some ⟨b0, off, none⟩) 4 cap) wq) := fun wq => slice_toD b0 off l cap 4 (by omega) wq
  have HA' : Hid (∀ wq : World, (Instr.sliceAt 39 (.slice (some ⟨b0, off, none⟩) l cap) none (some (.int .i64 4)) none).run Tryz.prog wq = .ok (.slice (some ⟨b0, off, none⟩) 4 cap) wq) := fun wq => slice_toD' b0 off l cap 4 (by omega) wq
  have HR : Hid (∀ wq : World, (Instr.slice 39 (.slice (some ⟨b0, off, none⟩) l cap) (some (.int .i64 8)) none none).run Tryz.prog wq = .ok (.slice (fromA (some ⟨b0, off, none⟩) cap 8) (l - 8) (cap - 8)) wq) := fun wq => slice_from _ l cap 8 (by omega) wq
  have HR' : Hid (∀ wq : World, (Instr.sliceAt 39 (.slice (some ⟨b0, off, none⟩) l cap) (some (.int .i64 8)) none none).run Tryz.prog wq = .ok (.slice (fromA (some ⟨b0, off, none⟩) cap 8) (l - 8) (cap - 8)) wq) := fun wq => slice_from' _ l cap 8 (by omega) wq
  have HSR := Lib.hid (h.from 8 (by omega))
  have HBL := Lib.hid (blk_from (some ⟨b0, off, none⟩) cap 8)
  clear h hl
  go_enter Tryz.func53, Tryz.ntmps53
  go_wp2_with fail
  refine wp_region_ext (by kernel_rfl) ?_
  refine wpAnyH_tk (i := 0) 12 (v := ?_) rfl rfl (by kernel_rfl) (by kernel_rfl) (by kernel_rfl) (by rfl) (fun wq hwq => ?_) ?_
  rotate_left
  · (go_simp <;> with_reducible rfl)
  simp only [List.setIfInBounds_toArray, List.set_cons_zero, List.set_cons_succ]
  refine wpAnyH_tk (i := 1) 13 (v := ?_) rfl rfl (by kernel_rfl) (by kernel_rfl) (by kernel_rfl) (by rfl) (fun wq hwq => ?_) ?_
  rotate_left
  · (have hx := HA.out wq; go_simp <;> with_reducible rfl)
  simp only [List.setIfInBounds_toArray, List.set_cons_zero, List.set_cons_succ]
  refine wpAnyH_tk (i := 3) 15 (v := ?_) rfl rfl (by kernel_rfl) (by kernel_rfl) (by kernel_rfl) (by rfl) (fun wq hwq => ?_) ?_
  rotate_left
  · (go_simp <;> with_reducible rfl)
  simp only [List.setIfInBounds_toArray, List.set_cons_zero, List.set_cons_succ]
  refine wpAnyH_tk (i := 4) 16 (v := ?_) rfl rfl (by kernel_rfl) (by kernel_rfl) (by kernel_rfl) (by rfl) (fun wq hwq => ?_) ?_
  rotate_left
  · (have hx := HR.out wq; go_simp <;> with_reducible rfl)
  simp only [List.setIfInBounds_toArray, List.set_cons_zero, List.set_cons_succ]
  refine wpAnyH_one (i := 2) rfl (by kernel_rfl) (by rfl) (fun K hK => ?_)
  go_simp
  refine (bkNumber_any _ _ (b.take 4) _ HT4.out ((HS.out.drewN 1).take 4)).mono ?_
  rintro e w' ⟨rfl, rfl⟩
  rw [HNT.out]
  refine hK.out _ _ (Below.refl _ _) ?_
  clear hK K
  refine wpAnyH_tk (i := 5) 4 (v := ?_) rfl rfl (by kernel_rfl) (by kernel_rfl) (by kernel_rfl) (by rfl) (fun wq hwq => ?_) ?_
  rotate_left
  · (go_simp <;> with_reducible rfl)
  simp only [List.setIfInBounds_toArray, List.set_cons_zero, List.set_cons_succ]
  refine wpAnyH_tk (i := 6) 5 (v := ?_) rfl rfl (by kernel_rfl) (by kernel_rfl) (by kernel_rfl) (by rfl) (fun wq hwq => ?_) ?_
  rotate_left
  · (go_simp <;> with_reducible rfl)
  simp only [List.setIfInBounds_toArray, List.set_cons_zero, List.set_cons_succ]
  refine wpAnyH_done (by kernel_rfl) ?_ _
  refine NoPanic.normal ?_
  have HI' := Lib.hid HI.out.inn
  have HD8L := HI.out.fit
  generalize HD8 : List.drop 8 b = b8 at *
  rw [HI.out.num]
  have HFIT := HI.out.fit
  have HCL := HI.out.len
  have hdn : decide (((l - 8 : Nat) : Int) < (n : Int)) = false := by simp; omega
  have hdn' : decide ((l - 8 : Nat) < n) = false := by simp; omega
  generalize fromA (some ⟨b0, off, none⟩) cap 8 = x at *
  have HL8 : Hid (b8.length = l - 8) := by show _ = _; rw [← HD8, List.length_drop, HL.out]
  have hsl := seen_take x (l - 8) (cap - 8) n b8 (w.drewN 1) HL8.out HSR.out (by omega)
  have hsl' := seen_take' x (l - 8) (cap - 8) n b8 (w.drewN 1) HL8.out HSR.out (by omega)
  have HS1 := Lib.hid (HS.out.drewN 1)
  have HC1 : Hid (SeenAt (w.drewN 1) x (cap - 8) c) := by have := (HSR.out.take n).drewN 1; rw [HI'.out] at this; exact this
  go_wp2_with fail
  refine (bkFrame_any _ _ _ c _ HCL (by omega) HC1.out).mono ?_
  rintro e w2 ⟨g2, c2, rfl, ho2, hb2⟩
  have E2 : Hid (Ext w w2) := Ext.trans (below_drewN w 1) hb2
  have HS2 := Lib.hid ho2.seenAt
  have HX2 := Lib.hid (HC1.out.below hb2)
  have HSB := Lib.hid (HS1.out.below hb2)
  have HFL := Lib.hid (frm_len c)
  clear ho2 hb2
  go_wp2_with fail
  refine (prefix_any _ _ _ _ _ _ b (frm c) _ HL.out rfl HSB.out HS2.out).mono ?_
  rintro e w' ⟨rfl, rfl⟩
  rw [HFL.out, HCL, HP.out]
  go_wp2_with fail
  refine (decode_yes _ _ _ c _ HCL (by omega) HX2.out HDB.out).mono ?_
  rintro e w3 ⟨ma, mc, ea, ec, rfl, _, hb3⟩
  generalize decR c = r at *
  have hb4 := below_one w3 (.cells #[.int .i64 r.kind, .int .i64 r.epoch, .slice ma r.mem.length mc, .int .i64 r.pos, .int .i64 r.last, .slice ea r.ents.length ec] 35)
  have E3 := Lib.hid ((E2.out.trans hb3).trans hb4)
  have HX3 := Lib.hid ((HX2.out.below hb3).below hb4)
  clear hb3 hb4
  have HFF : ∀ w', Ext w w' → SeenAt w' x (cap - 8) c → RetF w (some ⟨b0, off, none⟩) c (.returned (.tuple #[.slice x n (cap - 8), .bool true])) w' := fun w' hw hs => ⟨x, cap - 8, by rw [HCL], HBL.out, hs, hw⟩
  have HFF' := Lib.hid HFF
  clear HFF
  go_wp2
  go_ret2
  exact HFF'.out _ E3.out HX3.out

theorem first_no (a : Option Addr) (cap l : Nat) (b : List Nat) (w : World) (hl : b.length = l) (h : SeenAt w a cap b) (hm : l ≤ 100000000) (hF : isF b = false) :
    Calls Tryz.prog 53 #[.slice a l cap] w fun e w' => e = .returned (.tuple #[.slice none 0 0, .bool false]) ∧ Below w.heap.size w w' := by
  by_cases h8 : 8 ≤ l
  · by_cases hn : num4 b ≤ l - 8
    · have hi := inn_at b l hl h8 hn
      unfold isF at hF
      rw [hl, show decide (8 ≤ l) = true by simpa using h8, show decide (num4 b ≤ l - 8) = true by simpa using hn, Bool.true_and, Bool.true_and] at hF
      cases hp : decide (frm (inn b) = b.take (8 + num4 b)) with
      | false => exact first_form a cap l _ b _ w hl h h8 hm hi hp
      | true => rw [hp, Bool.true_and] at hF; exact first_bad a cap l _ b _ w hl h h8 hm hi hp hF
    · exact first_over a cap l b w hl h h8 hm (by omega)
  · exact first_short a cap l w (by omega)

theorem first_yes (a : Option Addr) (cap l : Nat) (b : List Nat) (w : World) (hl : b.length = l) (h : SeenAt w a cap b) (hm : l ≤ 100000000) (hF : isF b = true) :
    Calls Tryz.prog 53 #[.slice a l cap] w (RetF w a (inn b)) := by
  have hF' := hF
  unfold isF at hF'
  simp at hF'
  obtain ⟨h1, h2, h3, h4⟩ := hF'
  exact first_good a cap l _ b _ w hl h (by omega) hm (inn_at b l hl (by omega) (by omega)) (by simpa using h3) h4

end Go.Proofs.YtdgpbdedaafdiaaGreat

namespace Go.Proofs.YtdgpbdedaafdiaaGreat
open Go.RowKit

/-- What valid answers: the encodings in the valid part, rows of it, and its size. -/
def RetV (w : World) (a : Option Addr) (b : List Nat) (e : Ending) (w' : World) : Prop :=
  ∃ ga gc xs rest, e = .returned (.tuple #[.slice ga xs.length gc, .int .i64 ((frms (xs.map (·.ps))).length : Nat)]) ∧ Vld b (xs.map (·.ps)) rest ∧ Rws w' w.heap.size ga gc xs ∧ (∀ x ∈ xs, blk x.loc = blk a) ∧ Below w.heap.size w w'

/-- A scope in which the run jumps back to one label, the first pass as all others. -/
theorem wp_scope_back {P : Program} {a : Act} {w : World} {Q : Exit → Act → World → Prop} {c X : Code} (l : Nat) (J : Act → World → Prop) (μ : Act → World → Nat) (hf : findLabel c l = some (Code.seq Code.skip X))
    (first : (∀ a w, J a w → X.wp P (Exit.jump l J Q) a w) → c.wp P (Exit.jump l J Q) a w)
    (pass : ∀ a w, J a w → X.wp P (Exit.jump l (fun a' w' => J a' w' ∧ μ a' w' < μ a w) Q) a w) : (Code.scope c).wp P Q a w := by
  refine wp_scope_jumps l J μ hf (first fun a w h => wp_mono (pass a w h) ?_) fun a w h => wp_seq (wp_skip (pass a w h))
  intro e a' w' hq
  cases e <;> first | exact ⟨hq.1, hq.2.1⟩ | exact hq

/-- What holds at each jump. -/
def VldJ (w : World) (a : Option Addr) (cap l : Nat) (b : List Nat) (a' : Act) (w' : World) : Prop :=
  ∃ (ga : Option Addr) (gc n z : Nat) (xs : List Rw) (rest : List Nat) (u6 u7 u8 u9 u10 u11 u12 u13 u14 u15 u16 u17 u18 u19 u20 u21 u22 u23 u24 u25 u26 : Value),
    a' = { tmps := #[.slice a l cap, undef, .slice none 0 0, .int .i64 0, .slice ga n gc, .int .i64 (z : Int), u6, u7, u8, u9, u10, u11, u12, u13, u14, u15, u16, u17, u18, u19, u20, u21, u22, u23, u24, u25, u26], defers := [] }
    ∧ Hid (xs.length = n) ∧ Hid ((frms (xs.map (·.ps))).length = z) ∧ Hid (b = frms (xs.map (·.ps)) ++ rest) ∧ Hid (∀ x ∈ xs, decB x.ps = true ∧ x.ps.length < 4294967296 ∧ blk x.loc = blk a) ∧ Hid (Rws w' w.heap.size ga gc xs) ∧ Hid (Ext w w')

def VldM (l : Nat) (a' : Act) (_ : World) : Nat := l - (intOf (a'.tmps.getD 5 undef)).toNat

theorem rws_len (xs : List Rw) : xs.length ≤ (frms (xs.map (·.ps))).length := by
  induction xs with
  | nil => simp
  | cons x xs ih =>
    rw [List.map_cons, frms_cons, List.length_append, frm_len, List.length_cons]
    omega

set_option maxRecDepth 100000 in
set_option maxHeartbeats 1000000 in
theorem valid_any (a : Option Addr) (cap l : Nat) (b : List Nat) (w : World) (hl : b.length = l) (h : SeenAt w a cap b) (hm : l ≤ 100000000) :
    Calls Tryz.prog 38 #[.slice a l cap] w (RetV w a b) := by
  have HS := Lib.hid h
  have HL := Lib.hid hl
  clear h hl
  go_enter Tryz.func38, Tryz.ntmps38
  go_wp2
  refine wp_scope_back 0 (VldJ w a cap l b) (VldM l) rfl (fun pass => ?_) ?_
  · go_wp2
    go_step3
    rename_i K hK
    refine hK _ _ (pass _ _ ?_)
    · exact ⟨none, 0, 0, 0, [], b, _, _, _, _, _, _, _, _, _, _, _, _, _, _, _, _, _, _, _, _, _, rfl, rfl, rfl, rfl, by intro x hx; simp at hx, rws_nil _ _, Ext.refl _⟩
  · rintro a' w1 ⟨ga, gc, n, z, xs, rest, u6, u7, u8, u9, u10, u11, u12, u13, u14, u15, u16, u17, u18, u19, u20, u21, u22, u23, u24, u25, u26, rfl, HN, HZ, HE, HD, HR, E1⟩
    have hsz := vld_size b (xs.map (·.ps)) rest HE.out
    rw [HZ.out, HL.out] at hsz
    have hsl := slice_from a l cap z (by omega) w1
    have hsl' := slice_from' a l cap z (by omega) w1
    have HS1 : Hid (SeenAt w1 (fromA a cap z) (cap - z) rest) := by have := (HS.out.below E1.out).from z (by rw [HL.out]; omega); rw [hsz.1] at this; exact this
    have HBL := Lib.hid (blk_from a cap z)
    have HRL : Hid (rest.length = l - z) := by show _ = _; omega
    have hzl : z ≤ l := by omega
    have hnz : n ≤ z := by rw [← HN.out, ← HZ.out]; exact rws_len xs
    clear hsz
    generalize fromA a cap z = x at *
    cases hF : isF rest with
    | false =>
      have HF : Hid (isF rest = false) := hF
      clear hF
      go_wp2_with fail
      refine (first_no _ _ _ rest _ HRL.out HS1.out (by omega) HF.out).mono ?_
      rintro e w2 ⟨rfl, hb2⟩
      have HFIN : Hid (RetV w a b (.returned (.tuple #[.slice ga n gc, .int .i64 (z : Int)])) w2) :=
        ⟨ga, gc, xs, rest, by rw [HN.out, HZ.out], ⟨HE.out, fun c hc => by obtain ⟨y, hy, rfl⟩ := List.mem_map.mp hc; exact (HD.out y hy).1, fun c hc => by obtain ⟨y, hy, rfl⟩ := List.mem_map.mp hc; exact (HD.out y hy).2.1, HF.out⟩, HR.out.below hb2, fun y hy => (HD.out y hy).2.2, E1.out.trans hb2⟩
      go_wp2
      simp only [Exit.jump]
      go_ret2
      exact HFIN.out
    | true =>
      have HF : Hid (isF rest = true) := hF
      clear hF
      go_wp2_with fail
      refine (first_yes _ _ _ rest _ HRL.out HS1.out (by omega) HF.out).mono ?_
      rintro e w2 ⟨y, q, rfl, hby, hsy, hb2⟩
      obtain ⟨i1, i2, i3, i4⟩ := isF_is rest HF.out
      have HMORE := Lib.hid (vld_more b (xs.map (·.ps)) rest HE.out HF.out)
      have HDC := Lib.hid i2
      obtain ⟨lc, hlc⟩ : ∃ q, (inn rest).length = q := ⟨_, rfl⟩
      have hfit : 8 + lc ≤ rest.length := by omega
      rw [HRL.out] at hfit
      rw [hlc]
      have HLC := Lib.hid hlc
      clear i1 i2 i3 i4 hlc
      generalize inn rest = C at *
      have hbl := hby.trans HBL.out
      have HBY : Hid (∀ g ∈ blk y, g ∉ blk ga ∧ g < w2.heap.size) := by
        intro g hg
        rw [hbl] at hg
        obtain ⟨b0, o0, ea, hc0⟩ := HS.out.cell 0 (by rw [HL.out]; omega)
        have hlt := World.block_lt_of_cell? w _ hc0
        subst ea
        simp [blk] at hg
        subst hg
        have hlt' : g < w.heap.size := hlt
        have h2 := E1.out.size
        have h3 := hb2.size
        exact ⟨fun hga => by have := (HR.out.lt hga).1; omega, by omega⟩
      have HR2 := Lib.hid ((HR.out.below hb2).below (below_one w2 (.cells #[.slice y lc q] 39)))
      have HSY := Lib.hid (hsy.below (below_one w2 (.cells #[.slice y lc q] 39)))
      have E2 := Lib.hid ((E1.out.trans hb2).trans (below_one w2 (.cells #[.slice y lc q] 39)))
      clear hsy hb2
      go_wp2_with (at_builtin; refine wpList_appRw rfl (.tmp 16) (.tmp 18) rfl w.heap.size ga gc xs n HN.out rfl HR2.out ⟨y, q, C⟩ w2.heap.size 1 rfl (by rw [World.cell?_alloc_mark]; rw [Rw.val, HLC.out]; rfl) (by omega) E2.out.size HSY.out (fun g hg => ⟨(HBY.out g hg).1, by have := (HBY.out g hg).2; simp; omega⟩) ?_; intro g3 c3 w3 hr3 chg3 hg3)
      have E3 : Hid (Ext w w3) := chg3.below E2.out E2.out.size fun g hg => (HR2.out.lt hg).1
      have HR3 := Lib.hid hr3
      have HD3 : Hid (∀ v ∈ xs ++ [(⟨y, q, C⟩ : Rw)], decB v.ps = true ∧ v.ps.length < 4294967296 ∧ blk v.loc = blk a) := by
        intro v hv
        rcases List.mem_append.mp hv with hv | hv
        · exact HD.out v hv
        · rw [List.mem_singleton.mp hv]
          exact ⟨HDC.out, by show C.length < _; rw [HLC.out]; omega, hbl⟩
      have HN3 : Hid ((xs ++ [(⟨y, q, C⟩ : Rw)]).length = n + 1) := by show _ = _; rw [List.length_append, HN.out]; rfl
      have HZ3 : Hid ((frms ((xs ++ [(⟨y, q, C⟩ : Rw)]).map (·.ps))).length = z + (8 + lc)) := by
        show _ = _
        rw [List.map_append, List.map_cons, List.map_nil, frms_snoc, List.length_append, HZ.out, frm_len, HLC.out]
      have HE3 : Hid (b = frms ((xs ++ [(⟨y, q, C⟩ : Rw)]).map (·.ps)) ++ List.drop (8 + C.length) rest) := by
        show _ = _
        rw [List.map_append, List.map_cons, List.map_nil]
        exact HMORE.out
      clear hr3 chg3 hg3
      go_step3
      refine ⟨rfl, ⟨_, _, _, _, _, _, _, _, _, _, _, _, _, _, _, _, _, _, _, _, _, _, _, _, _, _, _, by congr 1, HN3, HZ3, HE3, HD3, HR3, E3⟩, ?_⟩
      simp [VldM, intOf]
      omega

end Go.Proofs.YtdgpbdedaafdiaaGreat
