/-
  book: frame, first.
-/
import Derived.Test.YtdgpbdedaafdiaaWalksB1
namespace Go.Proofs.Ytdgpbdedaafdiaa
open Go.RowKit


theorem blk_from (a : Option Addr) (c n : Nat) : blk (fromA a c n) = blk a := by
  unfold fromA
  split
  · rfl
  · rcases a with _ | ⟨b, off, sp⟩
    · rfl
    · show [(Addr.add _ n).block] = [b]
      unfold Addr.add
      split <;> rfl

set_option maxRecDepth 100000 in
set_option maxHeartbeats 1000000 in
theorem bkFrame_any (a : Option Addr) (cap l : Nat) (c : List Nat) (w : World) (hl : c.length = l) (hm : l ≤ 100000000) (h : SeenAt w a cap c) :
    Calls Try.prog 60 #[.slice a l cap] w (RetO w (frm c)) := by
  have HS := Lib.hid h
  have HL := Lib.hid hl
  have HF : Hid (frm c = [be4 l, be4 (Crc.sum (be4 l ++ c)), c].flatten) := by show _ = _; unfold frm; rw [hl]; simp
  have HC : Hid (Crc.sum (be4 l ++ c) < 4294967296) := Crc.sum_lt _ (bytes_app' (be4_bytes _) h.byte)
  have hx : (l : Int) % 4294967296 = (l : Int) := by omega
  clear h hl
  go_enter Try.func60, Try.ntmps60
  go_wp2_with fail
  refine (word_any l _ (by omega)).mono ?_
  rintro e w1 ⟨g1, c1, rfl, ho1, hb1⟩
  have HO1 := Lib.hid ho1
  have E1 : Hid (Ext w w1) := hb1
  have HG := Lib.hid (rows_two ho1.seenAt (HS.out.below hb1))
  rw [HL.out] at HG
  rw [be4_len]
  rw [be4_len] at HG
  clear ho1 hb1
  go_wp2_with fail
  refine (concat_own _ 2 2 _ _ rfl HG.out (by simp [be4]) (by have := HL.out; simp [be4]; omega)).mono ?_
  rintro e w2 ⟨g2, c2, rfl, ho2, hb2⟩
  have hq2 : ([be4 l, c].flatten) = be4 l ++ c := by simp
  rw [hq2] at ho2 ⊢
  have HL2 : Hid ((be4 l ++ c).length = 4 + l) := by show _ = _; rw [List.length_append, be4_len, HL.out]
  rw [HL2.out]
  have E2 := Lib.hid ((E1.out.trans (below_one w1 _)).trans hb2)
  have HS2 := Lib.hid ho2.seenAt
  have HO2 := Lib.hid ((HO1.out.chg (gs := []) (Chg.of_below (below_one w1 (.cells #[.slice (some ⟨g1, 0, none⟩) 4 c1, .slice a l cap] 30))) (by simp)).chg (gs := []) (Chg.of_below hb2) (by simp))
  clear ho2 hb2 HG HO1 E1 hq2
  generalize be4 l ++ c = A2 at *
  go_wp2_with fail
  refine (of_any _ _ _ A2 _ HL2.out HS2.out).mono ?_
  rintro e w' ⟨rfl, rfl⟩
  have HC' := HC.out
  go_wp2_with fail
  generalize Crc.sum A2 = S at *
  refine (word_any S _ HC').mono ?_
  rintro e w3 ⟨g3, c3, rfl, ho3, hb3⟩
  have E3 := Lib.hid (E2.out.trans hb3)
  have HG3 := Lib.hid (rows_three (HO2.out.chg (gs := []) (Chg.of_below hb3) (by simp)).seenAt ho3.seenAt (HS.out.below E3.out))
  rw [be4_len, be4_len, HL.out] at HG3
  rw [be4_len]
  clear ho3 hb3 E2 HS2
  go_wp2_with fail
  refine (concat_own _ 3 3 _ _ rfl HG3.out (by simp [be4]) (by have := HL.out; simp [be4]; omega)).mono ?_
  intro e w4 h4
  have HR := Lib.hid (h4.later (Below.trans E3.out (Below.mono (below_one w3 _) E3.out.size)) (qs := frm c) HF.out.symm)
  clear HG3
  obtain ⟨g4, c4, rfl, _⟩ := h4
  rw [← HF.out] at HR ⊢
  generalize (frm c).length = q4 at *
  go_wp2
  go_ret
  exact HR.out

theorem RetO.grow {w w' : World} {g c q : Nat} {ps : List Nat} (h : OwnB w' w.heap.size g c ps) (hb : Below w.heap.size w w') (e : ps.length = q) : RetO w ps (.returned (.slice (some ⟨g, 0, none⟩) q c)) w' := by
  subst e
  exact ⟨g, c, rfl, h, hb⟩

/-- What first answers where there is no frame. -/
theorem first_short (a : Option Addr) (cap l : Nat) (w : World) (h : l < 8) :
    Calls Try.prog 50 #[.slice a l cap] w fun e w' => e = .returned (.tuple #[.slice none 0 0, .bool false]) ∧ Below w.heap.size w w' := by
  have hd : decide ((l : Int) < 8) = true := by simp; omega
  go_enter Try.func50, Try.ntmps50
  go_wp2
  go_ret2
  exact ⟨rfl, Below.refl _ _⟩

/-- What first answers where there is a frame. -/
def RetF (w : World) (a : Option Addr) (c : List Nat) (e : Ending) (w' : World) : Prop :=
  ∃ x q, e = .returned (.tuple #[.slice x c.length q, .bool true]) ∧ blk x = blk a ∧ SeenAt w' x q c ∧ Below w.heap.size w w'


set_option maxRecDepth 100000 in
set_option maxHeartbeats 1000000 in
theorem first_over (a : Option Addr) (cap l : Nat) (b : List Nat) (w : World) (hl : b.length = l) (h : SeenAt w a cap b) (h8 : 8 ≤ l) (hm : l ≤ 100000000) (hn : l - 8 < num4 b) :
    Calls Try.prog 50 #[.slice a l cap] w fun e w' => e = .returned (.tuple #[.slice none 0 0, .bool false]) ∧ Below w.heap.size w w' := by
  have hd : decide ((l : Int) < 8) = false := by simp; omega
  have hle := h.le
  have hmax := h.max
  unfold maxLen at hmax
  obtain ⟨b0, off, rfl, _⟩ := h.cell 0 (by omega)
  have HS := Lib.hid h
  have HL := Lib.hid hl
  have HB := Lib.hid h.byte
  have HNT : Hid (num4 (b.take 4) = num4 b) := num4_take b 4 (by omega)
  have HN4 := Lib.hid (num4_lt b h.byte)
  have HT4 : Hid ((b.take 4).length = 4) := by show _ = _; rw [List.length_take]; omega
  have HA : Hid (∀ wq : World, (Instr.slice 30 (.slice (some ⟨b0, off, none⟩) l cap) none (some (.int .i64 4)) none).run Try.prog wq = .ok (.slice (some ⟨b0, off, none⟩) 4 cap) wq) := fun wq => slice_toD b0 off l cap 4 (by omega) wq
  have HA' : Hid (∀ wq : World, (Instr.sliceAt 30 (.slice (some ⟨b0, off, none⟩) l cap) none (some (.int .i64 4)) none).run Try.prog wq = .ok (.slice (some ⟨b0, off, none⟩) 4 cap) wq) := fun wq => slice_toD' b0 off l cap 4 (by omega) wq
  have HR : Hid (∀ wq : World, (Instr.slice 30 (.slice (some ⟨b0, off, none⟩) l cap) (some (.int .i64 8)) none none).run Try.prog wq = .ok (.slice (fromA (some ⟨b0, off, none⟩) cap 8) (l - 8) (cap - 8)) wq) := fun wq => slice_from _ l cap 8 (by omega) wq
  have HR' : Hid (∀ wq : World, (Instr.sliceAt 30 (.slice (some ⟨b0, off, none⟩) l cap) (some (.int .i64 8)) none none).run Try.prog wq = .ok (.slice (fromA (some ⟨b0, off, none⟩) cap 8) (l - 8) (cap - 8)) wq) := fun wq => slice_from' _ l cap 8 (by omega) wq
  have HSR := Lib.hid (h.from 8 (by omega))
  have HBL := Lib.hid (blk_from (some ⟨b0, off, none⟩) cap 8)
  clear h hl
  go_enter Try.func50, Try.ntmps50
  go_wp2_with fail
  refine wp_region_ext (by kernel_rfl) ?_
  refine wpAnyH_tk (i := 0) 12 (v := ?_) rfl rfl (by kernel_rfl) (by kernel_rfl) (by kernel_rfl) (by rfl) (fun wq hwq => ?_) ?_
  rotate_left
  · (go_simp <;> with_reducible rfl)
  simp only [List.setIfInBounds_toArray, List.set_cons_zero, List.set_cons_succ]
  refine wpAnyH_tk (i := 1) 13 (v := ?_) rfl rfl (by kernel_rfl) (by kernel_rfl) (by kernel_rfl) (by rfl) (fun wq hwq => ?_) ?_
  rotate_left
  · (have hx := HA.out wq; go_simp <;> with_reducible rfl)
  simp only [List.setIfInBounds_toArray, List.set_cons_zero, List.set_cons_succ]
  refine wpAnyH_tk (i := 3) 15 (v := ?_) rfl rfl (by kernel_rfl) (by kernel_rfl) (by kernel_rfl) (by rfl) (fun wq hwq => ?_) ?_
  rotate_left
  · (go_simp <;> with_reducible rfl)
  simp only [List.setIfInBounds_toArray, List.set_cons_zero, List.set_cons_succ]
  refine wpAnyH_tk (i := 4) 16 (v := ?_) rfl rfl (by kernel_rfl) (by kernel_rfl) (by kernel_rfl) (by rfl) (fun wq hwq => ?_) ?_
  rotate_left
  · (have hx := HR.out wq; go_simp <;> with_reducible rfl)
  simp only [List.setIfInBounds_toArray, List.set_cons_zero, List.set_cons_succ]
  refine wpAnyH_one (i := 2) rfl (by kernel_rfl) (by rfl) (fun K hK => ?_)
  go_simp
  refine (bkNumber_any _ _ (b.take 4) _ HT4.out ((HS.out.drewN 1).take 4)).mono ?_
  rintro e w' ⟨rfl, rfl⟩
  rw [HNT.out]
  refine hK.out _ _ (Below.refl _ _) ?_
  clear hK K
  refine wpAnyH_tk (i := 5) 4 (v := ?_) rfl rfl (by kernel_rfl) (by kernel_rfl) (by kernel_rfl) (by rfl) (fun wq hwq => ?_) ?_
  rotate_left
  · (go_simp <;> with_reducible rfl)
  simp only [List.setIfInBounds_toArray, List.set_cons_zero, List.set_cons_succ]
  refine wpAnyH_tk (i := 6) 5 (v := ?_) rfl rfl (by kernel_rfl) (by kernel_rfl) (by kernel_rfl) (by rfl) (fun wq hwq => ?_) ?_
  rotate_left
  · (go_simp <;> with_reducible rfl)
  simp only [List.setIfInBounds_toArray, List.set_cons_zero, List.set_cons_succ]
  refine wpAnyH_done (by kernel_rfl) ?_ _
  refine NoPanic.normal ?_
  have hdn : decide (((l - 8 : Nat) : Int) < (num4 b : Int)) = true := by simp; omega
  have hdn' : decide ((l - 8 : Nat) < num4 b) = true := by simp; omega
  go_wp2
  go_ret2
  exact ⟨rfl, (Below.refl _ _).drew⟩

/-- The record's bytes: first finds them. -/
structure Inn (b c : List Nat) (n l : Nat) : Prop where
  num : num4 b = n
  inn : (b.drop 8).take n = c
  len : c.length = n
  fit : 8 + n ≤ l

theorem inn_at (b : List Nat) (l : Nat) (hl : b.length = l) (h8 : 8 ≤ l) (hn : num4 b ≤ l - 8) : Inn b (inn b) (num4 b) l :=
  ⟨rfl, rfl, by unfold inn; rw [List.length_take, List.length_drop]; omega, by omega⟩


set_option maxRecDepth 100000 in
set_option maxHeartbeats 1000000 in
theorem first_form (a : Option Addr) (cap l n : Nat) (b c : List Nat) (w : World) (hl : b.length = l) (h : SeenAt w a cap b) (h8 : 8 ≤ l) (hm : l ≤ 100000000) (hi : Inn b c n l) (hp : decide (frm c = b.take (8 + n)) = false) :
    Calls Try.prog 50 #[.slice a l cap] w fun e w' => e = .returned (.tuple #[.slice none 0 0, .bool false]) ∧ Below w.heap.size w w' := by
  have HI := Lib.hid hi
  have HP := Lib.hid hp
  clear hi hp
  have hd : decide ((l : Int) < 8) = false := by simp; omega
  have hle := h.le
  have hmax := h.max
  unfold maxLen at hmax
  obtain ⟨b0, off, rfl, _⟩ := h.cell 0 (by omega)
  have HS := Lib.hid h
  have HL := Lib.hid hl
  have HB := Lib.hid h.byte
  have HNT : Hid (num4 (b.take 4) = num4 b) := num4_take b 4 (by omega)
  have HN4 := Lib.hid (num4_lt b h.byte)
  have HT4 : Hid ((b.take 4).length = 4) := by show _ = _; rw [List.length_take]; omega
  have HA : Hid (∀ wq : World, (Instr.slice 30 (.slice (some ⟨b0, off, none⟩) l cap) none (some (.int .i64 4)) none).run Try.prog wq = .ok (.slice (some ⟨b0, off, none⟩) 4 cap) wq) := fun wq => slice_toD b0 off l cap 4 (by omega) wq
  have HA' : Hid (∀ wq : World, (Instr.sliceAt 30 (.slice (some ⟨b0, off, none⟩) l cap) none (some (.int .i64 4)) none).run Try.prog wq = .ok (.slice (some ⟨b0, off, none⟩) 4 cap) wq) := fun wq => slice_toD' b0 off l cap 4 (by omega) wq
  have HR : Hid (∀ wq : World, (Instr.slice 30 (.slice (some ⟨b0, off, none⟩) l cap) (some (.int .i64 8)) none none).run Try.prog wq = .ok (.slice (fromA (some ⟨b0, off, none⟩) cap 8) (l - 8) (cap - 8)) wq) := fun wq => slice_from _ l cap 8 (by omega) wq
  have HR' : Hid (∀ wq : World, (Instr.sliceAt 30 (.slice (some ⟨b0, off, none⟩) l cap) (some (.int .i64 8)) none none).run Try.prog wq = .ok (.slice (fromA (some ⟨b0, off, none⟩) cap 8) (l - 8) (cap - 8)) wq) := fun wq => slice_from' _ l cap 8 (by omega) wq
  have HSR := Lib.hid (h.from 8 (by omega))
  have HBL := Lib.hid (blk_from (some ⟨b0, off, none⟩) cap 8)
  clear h hl
  go_enter Try.func50, Try.ntmps50
  go_wp2_with fail
  refine wp_region_ext (by kernel_rfl) ?_
  refine wpAnyH_tk (i := 0) 12 (v := ?_) rfl rfl (by kernel_rfl) (by kernel_rfl) (by kernel_rfl) (by rfl) (fun wq hwq => ?_) ?_
  rotate_left
  · (go_simp <;> with_reducible rfl)
  simp only [List.setIfInBounds_toArray, List.set_cons_zero, List.set_cons_succ]
  refine wpAnyH_tk (i := 1) 13 (v := ?_) rfl rfl (by kernel_rfl) (by kernel_rfl) (by kernel_rfl) (by rfl) (fun wq hwq => ?_) ?_
  rotate_left
  · (have hx := HA.out wq; go_simp <;> with_reducible rfl)
  simp only [List.setIfInBounds_toArray, List.set_cons_zero, List.set_cons_succ]
  refine wpAnyH_tk (i := 3) 15 (v := ?_) rfl rfl (by kernel_rfl) (by kernel_rfl) (by kernel_rfl) (by rfl) (fun wq hwq => ?_) ?_
  rotate_left
  · (go_simp <;> with_reducible rfl)
  simp only [List.setIfInBounds_toArray, List.set_cons_zero, List.set_cons_succ]
  refine wpAnyH_tk (i := 4) 16 (v := ?_) rfl rfl (by kernel_rfl) (by kernel_rfl) (by kernel_rfl) (by rfl) (fun wq hwq => ?_) ?_
  rotate_left
  · (have hx := HR.out wq; go_simp <;> with_reducible rfl)
  simp only [List.setIfInBounds_toArray, List.set_cons_zero, List.set_cons_succ]
  refine wpAnyH_one (i := 2) rfl (by kernel_rfl) (by rfl) (fun K hK => ?_)
  go_simp
  refine (bkNumber_any _ _ (b.take 4) _ HT4.out ((HS.out.drewN 1).take 4)).mono ?_
  rintro e w' ⟨rfl, rfl⟩
  rw [HNT.out]
  refine hK.out _ _ (Below.refl _ _) ?_
  clear hK K
  refine wpAnyH_tk (i := 5) 4 (v := ?_) rfl rfl (by kernel_rfl) (by kernel_rfl) (by kernel_rfl) (by rfl) (fun wq hwq => ?_) ?_
  rotate_left
  · (go_simp <;> with_reducible rfl)
  simp only [List.setIfInBounds_toArray, List.set_cons_zero, List.set_cons_succ]
  refine wpAnyH_tk (i := 6) 5 (v := ?_) rfl rfl (by kernel_rfl) (by kernel_rfl) (by kernel_rfl) (by rfl) (fun wq hwq => ?_) ?_
  rotate_left
  · (go_simp <;> with_reducible rfl)
  simp only [List.setIfInBounds_toArray, List.set_cons_zero, List.set_cons_succ]
  refine wpAnyH_done (by kernel_rfl) ?_ _
  refine NoPanic.normal ?_
  have HI' := Lib.hid HI.out.inn
  have HD8L := HI.out.fit
  generalize HD8 : List.drop 8 b = b8 at *
  rw [HI.out.num]
  have HFIT := HI.out.fit
  have HCL := HI.out.len
  have hdn : decide (((l - 8 : Nat) : Int) < (n : Int)) = false := by simp; omega
  have hdn' : decide ((l - 8 : Nat) < n) = false := by simp; omega
  generalize fromA (some ⟨b0, off, none⟩) cap 8 = x at *
  have HL8 : Hid (b8.length = l - 8) := by show _ = _; rw [← HD8, List.length_drop, HL.out]
  have hsl := seen_take x (l - 8) (cap - 8) n b8 (w.drewN 1) HL8.out HSR.out (by omega)
  have hsl' := seen_take' x (l - 8) (cap - 8) n b8 (w.drewN 1) HL8.out HSR.out (by omega)
  have HS1 := Lib.hid (HS.out.drewN 1)
  have HC1 : Hid (SeenAt (w.drewN 1) x (cap - 8) c) := by have := (HSR.out.take n).drewN 1; rw [HI'.out] at this; exact this
  go_wp2_with fail
  refine (bkFrame_any _ _ _ c _ HCL (by omega) HC1.out).mono ?_
  rintro e w2 ⟨g2, c2, rfl, ho2, hb2⟩
  have E2 : Hid (Ext w w2) := Ext.trans (below_drewN w 1) hb2
  have HS2 := Lib.hid ho2.seenAt
  have HX2 := Lib.hid (HC1.out.below hb2)
  have HSB := Lib.hid (HS1.out.below hb2)
  have HFL := Lib.hid (frm_len c)
  clear ho2 hb2
  go_wp2_with fail
  refine (prefix_any _ _ _ _ _ _ b (frm c) _ HL.out rfl HSB.out HS2.out).mono ?_
  rintro e w' ⟨rfl, rfl⟩
  rw [HFL.out, HCL, HP.out]
  go_wp2
  go_ret2
  exact ⟨rfl, E2.out⟩

set_option maxRecDepth 100000 in
set_option maxHeartbeats 1000000 in
theorem first_bad (a : Option Addr) (cap l n : Nat) (b c : List Nat) (w : World) (hl : b.length = l) (h : SeenAt w a cap b) (h8 : 8 ≤ l) (hm : l ≤ 100000000) (hi : Inn b c n l) (hp : decide (frm c = b.take (8 + n)) = true) (hd : decB c = false) :
    Calls Try.prog 50 #[.slice a l cap] w fun e w' => e = .returned (.tuple #[.slice none 0 0, .bool false]) ∧ Below w.heap.size w w' := by
  have HI := Lib.hid hi
  have HP := Lib.hid hp
  have HDB := Lib.hid hd
  clear hi hp hd
  have hd : decide ((l : Int) < 8) = false := by simp; omega
  have hle := h.le
  have hmax := h.max
  unfold maxLen at hmax
  obtain ⟨b0, off, rfl, _⟩ := h.cell 0 (by omega)
  have HS := Lib.hid h
  have HL := Lib.hid hl
  have HB := Lib.hid h.byte
  have HNT : Hid (num4 (b.take 4) = num4 b) := num4_take b 4 (by omega)
  have HN4 := Lib.hid (num4_lt b h.byte)
  have HT4 : Hid ((b.take 4).length = 4) := by show _ = _; rw [List.length_take]; omega
  have HA : Hid (∀ wq : World, (Instr.slice 30 (.slice (some ⟨b0, off, none⟩) l cap) none (some (.int .i64 4)) none).run Try.prog wq = .ok (.slice (some ⟨b0, off, none⟩) 4 cap) wq) := fun wq => slice_toD b0 off l cap 4 (by omega) wq
  have HA' : Hid (∀ wq : World, (Instr.sliceAt 30 (.slice (some ⟨b0, off, none⟩) l cap) none (some (.int .i64 4)) none).run Try.prog wq = .ok (.slice (some ⟨b0, off, none⟩) 4 cap) wq) := fun wq => slice_toD' b0 off l cap 4 (by omega) wq
  have HR : Hid (∀ wq : World, (Instr.slice 30 (.slice (some ⟨b0, off, none⟩) l cap) (some (.int .i64 8)) none none).run Try.prog wq = .ok (.slice (fromA (some ⟨b0, off, none⟩) cap 8) (l - 8) (cap - 8)) wq) := fun wq => slice_from _ l cap 8 (by omega) wq
  have HR' : Hid (∀ wq : World, (Instr.sliceAt 30 (.slice (some ⟨b0, off, none⟩) l cap) (some (.int .i64 8)) none none).run Try.prog wq = .ok (.slice (fromA (some ⟨b0, off, none⟩) cap 8) (l - 8) (cap - 8)) wq) := fun wq => slice_from' _ l cap 8 (by omega) wq
  have HSR := Lib.hid (h.from 8 (by omega))
  have HBL := Lib.hid (blk_from (some ⟨b0, off, none⟩) cap 8)
  clear h hl
  go_enter Try.func50, Try.ntmps50
  go_wp2_with fail
  refine wp_region_ext (by kernel_rfl) ?_
  refine wpAnyH_tk (i := 0) 12 (v := ?_) rfl rfl (by kernel_rfl) (by kernel_rfl) (by kernel_rfl) (by rfl) (fun wq hwq => ?_) ?_
  rotate_left
  · (go_simp <;> with_reducible rfl)
  simp only [List.setIfInBounds_toArray, List.set_cons_zero, List.set_cons_succ]
  refine wpAnyH_tk (i := 1) 13 (v := ?_) rfl rfl (by kernel_rfl) (by kernel_rfl) (by kernel_rfl) (by rfl) (fun wq hwq => ?_) ?_
  rotate_left
  · (have hx := HA.out wq; go_simp <;> with_reducible rfl)
  simp only [List.setIfInBounds_toArray, List.set_cons_zero, List.set_cons_succ]
  refine wpAnyH_tk (i := 3) 15 (v := ?_) rfl rfl (by kernel_rfl) (by kernel_rfl) (by kernel_rfl) (by rfl) (fun wq hwq => ?_) ?_
  rotate_left
  · (go_simp <;> with_reducible rfl)
  simp only [List.setIfInBounds_toArray, List.set_cons_zero, List.set_cons_succ]
  refine wpAnyH_tk (i := 4) 16 (v := ?_) rfl rfl (by kernel_rfl) (by kernel_rfl) (by kernel_rfl) (by rfl) (fun wq hwq => ?_) ?_
  rotate_left
  · (have hx := HR.out wq; go_simp <;> with_reducible rfl)
  simp only [List.setIfInBounds_toArray, List.set_cons_zero, List.set_cons_succ]
  refine wpAnyH_one (i := 2) rfl (by kernel_rfl) (by rfl) (fun K hK => ?_)
  go_simp
  refine (bkNumber_any _ _ (b.take 4) _ HT4.out ((HS.out.drewN 1).take 4)).mono ?_
  rintro e w' ⟨rfl, rfl⟩
  rw [HNT.out]
  refine hK.out _ _ (Below.refl _ _) ?_
  clear hK K
  refine wpAnyH_tk (i := 5) 4 (v := ?_) rfl rfl (by kernel_rfl) (by kernel_rfl) (by kernel_rfl) (by rfl) (fun wq hwq => ?_) ?_
  rotate_left
  · (go_simp <;> with_reducible rfl)
  simp only [List.setIfInBounds_toArray, List.set_cons_zero, List.set_cons_succ]
  refine wpAnyH_tk (i := 6) 5 (v := ?_) rfl rfl (by kernel_rfl) (by kernel_rfl) (by kernel_rfl) (by rfl) (fun wq hwq => ?_) ?_
  rotate_left
  · (go_simp <;> with_reducible rfl)
  simp only [List.setIfInBounds_toArray, List.set_cons_zero, List.set_cons_succ]
  refine wpAnyH_done (by kernel_rfl) ?_ _
  refine NoPanic.normal ?_
  have HI' := Lib.hid HI.out.inn
  have HD8L := HI.out.fit
  generalize HD8 : List.drop 8 b = b8 at *
  rw [HI.out.num]
  have HFIT := HI.out.fit
  have HCL := HI.out.len
  have hdn : decide (((l - 8 : Nat) : Int) < (n : Int)) = false := by simp; omega
  have hdn' : decide ((l - 8 : Nat) < n) = false := by simp; omega
  generalize fromA (some ⟨b0, off, none⟩) cap 8 = x at *
  have HL8 : Hid (b8.length = l - 8) := by show _ = _; rw [← HD8, List.length_drop, HL.out]
  have hsl := seen_take x (l - 8) (cap - 8) n b8 (w.drewN 1) HL8.out HSR.out (by omega)
  have hsl' := seen_take' x (l - 8) (cap - 8) n b8 (w.drewN 1) HL8.out HSR.out (by omega)
  have HS1 := Lib.hid (HS.out.drewN 1)
  have HC1 : Hid (SeenAt (w.drewN 1) x (cap - 8) c) := by have := (HSR.out.take n).drewN 1; rw [HI'.out] at this; exact this
  go_wp2_with fail
  refine (bkFrame_any _ _ _ c _ HCL (by omega) HC1.out).mono ?_
  rintro e w2 ⟨g2, c2, rfl, ho2, hb2⟩
  have E2 : Hid (Ext w w2) := Ext.trans (below_drewN w 1) hb2
  have HS2 := Lib.hid ho2.seenAt
  have HX2 := Lib.hid (HC1.out.below hb2)
  have HSB := Lib.hid (HS1.out.below hb2)
  have HFL := Lib.hid (frm_len c)
  clear ho2 hb2
  go_wp2_with fail
  refine (prefix_any _ _ _ _ _ _ b (frm c) _ HL.out rfl HSB.out HS2.out).mono ?_
  rintro e w' ⟨rfl, rfl⟩
  rw [HFL.out, HCL, HP.out]
  go_wp2_with fail
  refine (decode_no _ _ _ c _ HCL (by omega) HX2.out HDB.out).mono ?_
  rintro e w3 ⟨rfl, hb3⟩
  have E3 := Lib.hid ((E2.out.trans hb3).trans (below_one w3 (.cells #[.int .i64 0, .int .i64 0, .slice none 0 0, .int .i64 0, .int .i64 0, .slice none 0 0] 38)))
  clear hb3
  go_wp2
  go_ret2
  exact ⟨rfl, E3.out⟩

set_option maxRecDepth 100000 in
set_option maxHeartbeats 1000000 in
theorem first_good (a : Option Addr) (cap l n : Nat) (b c : List Nat) (w : World) (hl : b.length = l) (h : SeenAt w a cap b) (h8 : 8 ≤ l) (hm : l ≤ 100000000) (hi : Inn b c n l) (hp : decide (frm c = b.take (8 + n)) = true) (hd : decB c = true) :
    Calls Try.prog 50 #[.slice a l cap] w (RetF w a c) := by
  have HI := Lib.hid hi
  have HP := Lib.hid hp
  have HDB := Lib.hid hd
  clear hi hp hd
  have hd : decide ((l : Int) < 8) = false := by simp; omega
  have hle := h.le
  have hmax := h.max
  unfold maxLen at hmax
  obtain ⟨b0, off, rfl, _⟩ := h.cell 0 (by omega)
  have HS := Lib.hid h
  have HL := Lib.hid hl
  have HB := Lib.hid h.byte
  have HNT : Hid (num4 (b.take 4) = num4 b) := num4_take b 4 (by omega)
  have HN4 := Lib.hid (num4_lt b h.byte)
  have HT4 : Hid ((b.take 4).length = 4) := by show _ = _; rw [List.length_take]; omega
  have HA : Hid (∀ wq : World, (Instr.slice 30 (.slice (some ⟨b0, off, none⟩) l cap) none (some (.int .i64 4)) none).run Try.prog wq = .ok (.slice (some ⟨b0, off, none⟩) 4 cap) wq) := fun wq => slice_toD b0 off l cap 4 (by omega) wq
  have HA' : Hid (∀ wq : World, (Instr.sliceAt 30 (.slice (some ⟨b0, off, none⟩) l cap) none (some (.int .i64 4)) none).run Try.prog wq = .ok (.slice (some ⟨b0, off, none⟩) 4 cap) wq) := fun wq => slice_toD' b0 off l cap 4 (by omega) wq
  have HR : Hid (∀ wq : World, (Instr.slice 30 (.slice (some ⟨b0, off, none⟩) l cap) (some (.int .i64 8)) none none).run Try.prog wq = .ok (.slice (fromA (some ⟨b0, off, none⟩) cap 8) (l - 8) (cap - 8)) wq) := fun wq => slice_from _ l cap 8 (by omega) wq
  have HR' : Hid (∀ wq : World, (Instr.sliceAt 30 (.slice (some ⟨b0, off, none⟩) l cap) (some (.int .i64 8)) none none).run Try.prog wq = .ok (.slice (fromA (some ⟨b0, off, none⟩) cap 8) (l - 8) (cap - 8)) wq) := fun wq => slice_from' _ l cap 8 (by omega) wq
  have HSR := Lib.hid (h.from 8 (by omega))
  have HBL := Lib.hid (blk_from (some ⟨b0, off, none⟩) cap 8)
  clear h hl
  go_enter Try.func50, Try.ntmps50
  go_wp2_with fail
  refine wp_region_ext (by kernel_rfl) ?_
  refine wpAnyH_tk (i := 0) 12 (v := ?_) rfl rfl (by kernel_rfl) (by kernel_rfl) (by kernel_rfl) (by rfl) (fun wq hwq => ?_) ?_
  rotate_left
  · (go_simp <;> with_reducible rfl)
  simp only [List.setIfInBounds_toArray, List.set_cons_zero, List.set_cons_succ]
  refine wpAnyH_tk (i := 1) 13 (v := ?_) rfl rfl (by kernel_rfl) (by kernel_rfl) (by kernel_rfl) (by rfl) (fun wq hwq => ?_) ?_
  rotate_left
  · (have hx := HA.out wq; go_simp <;> with_reducible rfl)
  simp only [List.setIfInBounds_toArray, List.set_cons_zero, List.set_cons_succ]
  refine wpAnyH_tk (i := 3) 15 (v := ?_) rfl rfl (by kernel_rfl) (by kernel_rfl) (by kernel_rfl) (by rfl) (fun wq hwq => ?_) ?_
  rotate_left
  · (go_simp <;> with_reducible rfl)
  simp only [List.setIfInBounds_toArray, List.set_cons_zero, List.set_cons_succ]
  refine wpAnyH_tk (i := 4) 16 (v := ?_) rfl rfl (by kernel_rfl) (by kernel_rfl) (by kernel_rfl) (by rfl) (fun wq hwq => ?_) ?_
  rotate_left
  · (have hx := HR.out wq; go_simp <;> with_reducible rfl)
  simp only [List.setIfInBounds_toArray, List.set_cons_zero, List.set_cons_succ]
  refine wpAnyH_one (i := 2) rfl (by kernel_rfl) (by rfl) (fun K hK => ?_)
  go_simp
  refine (bkNumber_any _ _ (b.take 4) _ HT4.out ((HS.out.drewN 1).take 4)).mono ?_
  rintro e w' ⟨rfl, rfl⟩
  rw [HNT.out]
  refine hK.out _ _ (Below.refl _ _) ?_
  clear hK K
  refine wpAnyH_tk (i := 5) 4 (v := ?_) rfl rfl (by kernel_rfl) (by kernel_rfl) (by kernel_rfl) (by rfl) (fun wq hwq => ?_) ?_
  rotate_left
  · (go_simp <;> with_reducible rfl)
  simp only [List.setIfInBounds_toArray, List.set_cons_zero, List.set_cons_succ]
  refine wpAnyH_tk (i := 6) 5 (v := ?_) rfl rfl (by kernel_rfl) (by kernel_rfl) (by kernel_rfl) (by rfl) (fun wq hwq => ?_) ?_
  rotate_left
  · (go_simp <;> with_reducible rfl)
  simp only [List.setIfInBounds_toArray, List.set_cons_zero, List.set_cons_succ]
  refine wpAnyH_done (by kernel_rfl) ?_ _
  refine NoPanic.normal ?_
  have HI' := Lib.hid HI.out.inn
  have HD8L := HI.out.fit
  generalize HD8 : List.drop 8 b = b8 at *
  rw [HI.out.num]
  have HFIT := HI.out.fit
  have HCL := HI.out.len
  have hdn : decide (((l - 8 : Nat) : Int) < (n : Int)) = false := by simp; omega
  have hdn' : decide ((l - 8 : Nat) < n) = false := by simp; omega
  generalize fromA (some ⟨b0, off, none⟩) cap 8 = x at *
  have HL8 : Hid (b8.length = l - 8) := by show _ = _; rw [← HD8, List.length_drop, HL.out]
  have hsl := seen_take x (l - 8) (cap - 8) n b8 (w.drewN 1) HL8.out HSR.out (by omega)
  have hsl' := seen_take' x (l - 8) (cap - 8) n b8 (w.drewN 1) HL8.out HSR.out (by omega)
  have HS1 := Lib.hid (HS.out.drewN 1)
  have HC1 : Hid (SeenAt (w.drewN 1) x (cap - 8) c) := by have := (HSR.out.take n).drewN 1; rw [HI'.out] at this; exact this
  go_wp2_with fail
  refine (bkFrame_any _ _ _ c _ HCL (by omega) HC1.out).mono ?_
  rintro e w2 ⟨g2, c2, rfl, ho2, hb2⟩
  have E2 : Hid (Ext w w2) := Ext.trans (below_drewN w 1) hb2
  have HS2 := Lib.hid ho2.seenAt
  have HX2 := Lib.hid (HC1.out.below hb2)
  have HSB := Lib.hid (HS1.out.below hb2)
  have HFL := Lib.hid (frm_len c)
  clear ho2 hb2
  go_wp2_with fail
  refine (prefix_any _ _ _ _ _ _ b (frm c) _ HL.out rfl HSB.out HS2.out).mono ?_
  rintro e w' ⟨rfl, rfl⟩
  rw [HFL.out, HCL, HP.out]
  go_wp2_with fail
  refine (decode_yes _ _ _ c _ HCL (by omega) HX2.out HDB.out).mono ?_
  rintro e w3 ⟨ma, mc, ea, ec, rfl, _, hb3⟩
  generalize decR c = r at *
  have hb4 := below_one w3 (.cells #[.int .i64 r.kind, .int .i64 r.epoch, .slice ma r.mem.length mc, .int .i64 r.pos, .int .i64 r.last, .slice ea r.ents.length ec] 38)
  have E3 := Lib.hid ((E2.out.trans hb3).trans hb4)
  have HX3 := Lib.hid ((HX2.out.below hb3).below hb4)
  clear hb3 hb4
  have HFF : ∀ w', Ext w w' → SeenAt w' x (cap - 8) c → RetF w (some ⟨b0, off, none⟩) c (.returned (.tuple #[.slice x n (cap - 8), .bool true])) w' := fun w' hw hs => ⟨x, cap - 8, by rw [HCL], HBL.out, hs, hw⟩
  have HFF' := Lib.hid HFF
  clear HFF
  go_wp2
  go_ret2
  exact HFF'.out _ E3.out HX3.out

theorem first_no (a : Option Addr) (cap l : Nat) (b : List Nat) (w : World) (hl : b.length = l) (h : SeenAt w a cap b) (hm : l ≤ 100000000) (hF : isF b = false) :
    Calls Try.prog 50 #[.slice a l cap] w fun e w' => e = .returned (.tuple #[.slice none 0 0, .bool false]) ∧ Below w.heap.size w w' := by
  by_cases h8 : 8 ≤ l
  · by_cases hn : num4 b ≤ l - 8
    · have hi := inn_at b l hl h8 hn
      unfold isF at hF
      rw [hl, show decide (8 ≤ l) = true by simpa using h8, show decide (num4 b ≤ l - 8) = true by simpa using hn, Bool.true_and, Bool.true_and] at hF
      cases hp : decide (frm (inn b) = b.take (8 + num4 b)) with
      | false => exact first_form a cap l _ b _ w hl h h8 hm hi hp
      | true => rw [hp, Bool.true_and] at hF; exact first_bad a cap l _ b _ w hl h h8 hm hi hp hF
    · exact first_over a cap l b w hl h h8 hm (by omega)
  · exact first_short a cap l w (by omega)

theorem first_yes (a : Option Addr) (cap l : Nat) (b : List Nat) (w : World) (hl : b.length = l) (h : SeenAt w a cap b) (hm : l ≤ 100000000) (hF : isF b = true) :
    Calls Try.prog 50 #[.slice a l cap] w (RetF w a (inn b)) := by
  have hF' := hF
  unfold isF at hF'
  simp at hF'
  obtain ⟨h1, h2, h3, h4⟩ := hF'
  exact first_good a cap l _ b _ w hl h (by omega) hm (inn_at b l hl (by omega) (by omega)) (by simpa using h3) h4

end Go.Proofs.Ytdgpbdedaafdiaa
