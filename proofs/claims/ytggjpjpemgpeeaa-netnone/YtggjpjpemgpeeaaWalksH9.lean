/-
  inside.
-/
import Derived.Test.YtggjpjpemgpeeaaWalksH2
import Derived.Test.YtggjpjpemgpeeaaWalksZ2
import Derived.Test.YtggjpjpemgpeeaaExt3
namespace Go.Proofs.Ytggjpjpemgpeeaa
open Go.RowKit


/-- Is the first byte right, and the checksum. -/
def inB (b : List Nat) : Bool := decide (5 ≤ b.length) && decide (b.getD 0 0 = 1) && decide (b.drop (b.length - 4) = be4 (Crc.sum (cutMg b)))

def insV (ps : List Nat) (v : Value) : Value := if inB ps = true then v else .tuple #[.slice none 0 0, .bool false]

theorem okMg_in (b : List Nat) : okMg b = (inB b && decide ((rdTM (inM b)).2 = ([], false)) && sndMg (ofTup (rdTM (inM b)).1)) := rfl

set_option maxRecDepth 100000 in
set_option maxHeartbeats 1000000 in
theorem inside_short (a : Option Addr) (cap l : Nat) (w : World) (h5 : l < 5) :
    Calls Try.prog 57 #[.slice a l cap] w fun e w' => e = .returned (.tuple #[.slice none 0 0, .bool false]) ∧ Below w.heap.size w w' := by
  have hsz : IntKind.i64.wrap ((l : Int) - 4) = (l : Int) - 4 := IntWalk.i64_in _ (by omega)
  have hd : decide ((l : Int) - 4 < 1) = true := by simp; omega
  go_enter Try.func57, Try.ntmps57
  go_wp2_with fail
  refine wp_region_ext (by kernel_rfl) ?_
  have HB : Hid (Below w.heap.size w w.drew) := (Below.refl _ _).drew
  generalize w.drew = w2 at *
  refine wpAnyH_tk (i := 0) 8 (v := ?_) rfl rfl (by kernel_rfl) (by kernel_rfl) (by kernel_rfl) (by rfl) (fun wq hwq => ?_) ?_
  rotate_left
  · (go_simp <;> with_reducible rfl)
  simp only [List.setIfInBounds_toArray, List.set_cons_zero, List.set_cons_succ]
  refine wpAnyH_tk (i := 1) 9 (v := ?_) rfl rfl (by kernel_rfl) (by kernel_rfl) (by kernel_rfl) (by rfl) (fun wq hwq => ?_) ?_
  rotate_left
  · (go_simp <;> with_reducible rfl)
  simp only [List.setIfInBounds_toArray, List.set_cons_zero, List.set_cons_succ]
  refine wpAnyH_tk (i := 2) 10 (v := ?_) rfl rfl (by kernel_rfl) (by kernel_rfl) (by kernel_rfl) (by rfl) (fun wq hwq => ?_) ?_
  rotate_left
  · (go_simp <;> with_reducible rfl)
  simp only [List.setIfInBounds_toArray, List.set_cons_zero, List.set_cons_succ]
  refine wpAnyH_not (i := 3) 11 rfl rfl (by kernel_rfl) (by kernel_rfl) (by kernel_rfl) (by rfl) ?_
  simp only [List.setIfInBounds_toArray, List.set_cons_zero, List.set_cons_succ]
  refine wpAnyH_not (i := 4) 12 rfl rfl (by kernel_rfl) (by kernel_rfl) (by kernel_rfl) (by rfl) ?_
  simp only [List.setIfInBounds_toArray, List.set_cons_zero, List.set_cons_succ]
  refine wpAnyH_not (i := 5) 13 rfl rfl (by kernel_rfl) (by kernel_rfl) (by kernel_rfl) (by rfl) ?_
  simp only [List.setIfInBounds_toArray, List.set_cons_zero, List.set_cons_succ]
  refine wpAnyH_not (i := 6) 14 rfl rfl (by kernel_rfl) (by kernel_rfl) (by kernel_rfl) (by rfl) ?_
  simp only [List.setIfInBounds_toArray, List.set_cons_zero, List.set_cons_succ]
  refine wpAnyH_tk (i := 7) 15 (v := ?_) rfl rfl (by kernel_rfl) (by kernel_rfl) (by kernel_rfl) (by rfl) (fun wq hwq => ?_) ?_
  rotate_left
  · (go_simp <;> with_reducible rfl)
  simp only [List.setIfInBounds_toArray, List.set_cons_zero, List.set_cons_succ]
  refine wpAnyH_tk (i := 8) 16 (v := ?_) rfl rfl (by kernel_rfl) (by kernel_rfl) (by kernel_rfl) (by rfl) (fun wq hwq => ?_) ?_
  rotate_left
  · (go_simp <;> with_reducible rfl)
  simp only [List.setIfInBounds_toArray, List.set_cons_zero, List.set_cons_succ]
  refine wpAnyH_not (i := 9) 17 rfl rfl (by kernel_rfl) (by kernel_rfl) (by kernel_rfl) (by rfl) ?_
  simp only [List.setIfInBounds_toArray, List.set_cons_zero, List.set_cons_succ]
  refine wpAnyH_not (i := 10) 18 rfl rfl (by kernel_rfl) (by kernel_rfl) (by kernel_rfl) (by rfl) ?_
  simp only [List.setIfInBounds_toArray, List.set_cons_zero, List.set_cons_succ]
  refine wpAnyH_not (i := 11) 19 rfl rfl (by kernel_rfl) (by kernel_rfl) (by kernel_rfl) (by rfl) ?_
  simp only [List.setIfInBounds_toArray, List.set_cons_zero, List.set_cons_succ]
  refine wpAnyH_not (i := 12) 20 rfl rfl (by kernel_rfl) (by kernel_rfl) (by kernel_rfl) (by rfl) ?_
  simp only [List.setIfInBounds_toArray, List.set_cons_zero, List.set_cons_succ]
  refine wpAnyH_not (i := 13) 21 rfl rfl (by kernel_rfl) (by kernel_rfl) (by kernel_rfl) (by rfl) ?_
  simp only [List.setIfInBounds_toArray, List.set_cons_zero, List.set_cons_succ]
  refine wpAnyH_not (i := 14) 22 rfl rfl (by kernel_rfl) (by kernel_rfl) (by kernel_rfl) (by rfl) ?_
  simp only [List.setIfInBounds_toArray, List.set_cons_zero, List.set_cons_succ]
  refine wpAnyH_not (i := 15) 23 rfl rfl (by kernel_rfl) (by kernel_rfl) (by kernel_rfl) (by rfl) ?_
  simp only [List.setIfInBounds_toArray, List.set_cons_zero, List.set_cons_succ]
  refine wpAnyH_not (i := 16) 24 rfl rfl (by kernel_rfl) (by kernel_rfl) (by kernel_rfl) (by rfl) ?_
  simp only [List.setIfInBounds_toArray, List.set_cons_zero, List.set_cons_succ]
  refine wpAnyH_not (i := 17) 25 rfl rfl (by kernel_rfl) (by kernel_rfl) (by kernel_rfl) (by rfl) ?_
  simp only [List.setIfInBounds_toArray, List.set_cons_zero, List.set_cons_succ]
  refine wpAnyH_tk (i := 18) 26 (v := ?_) rfl rfl (by kernel_rfl) (by kernel_rfl) (by kernel_rfl) (by rfl) (fun wq hwq => ?_) ?_
  rotate_left
  · (go_simp <;> with_reducible rfl)
  simp only [List.setIfInBounds_toArray, List.set_cons_zero, List.set_cons_succ]
  refine wpAnyH_done (by kernel_rfl) ?_ _
  refine NoPanic.normal ?_
  go_wp2
  go_ret2
  exact ⟨rfl, HB.out⟩

set_option maxRecDepth 100000 in
set_option maxHeartbeats 1000000 in
theorem inside_first (b off : Nat) (cap l : Nat) (x : Nat) (w : World) (h5 : 5 ≤ l) (hm : l ≤ 1000000000) (hc : w.cell? ⟨b, off, none⟩ = some (.int .u8 (x : Int))) (hx : x ≠ 1) :
    Calls Try.prog 57 #[.slice (some ⟨b, off, none⟩) l cap] w fun e w' => e = .returned (.tuple #[.slice none 0 0, .bool false]) ∧ Below w.heap.size w w' := by
  have hsz : IntKind.i64.wrap ((l : Int) - 4) = (l : Int) - 4 := IntWalk.i64_in _ (by omega)
  have hd : decide ((l : Int) - 4 < 1) = false := by simp; omega
  have j1 : (0 : Int) < (l : Int) := by omega
  have j2 : 0 < l := by omega
  have hne : ((x : Int) != 1) = true := by simp; omega
  have HCD := Lib.hid (cell_later (Below.drew (Below.refl w.heap.size w)) hc)
  have HB : Hid (Below w.heap.size w w.drew) := (Below.refl _ _).drew
  clear hc
  go_enter Try.func57, Try.ntmps57
  go_wp2_with fail
  refine wp_region_ext (by kernel_rfl) ?_
  generalize w.drew = w2 at *
  refine wpAnyH_tk (i := 0) 8 (v := ?_) rfl rfl (by kernel_rfl) (by kernel_rfl) (by kernel_rfl) (by rfl) (fun wq hwq => ?_) ?_
  rotate_left
  · (go_simp <;> with_reducible rfl)
  simp only [List.setIfInBounds_toArray, List.set_cons_zero, List.set_cons_succ]
  refine wpAnyH_tk (i := 1) 9 (v := ?_) rfl rfl (by kernel_rfl) (by kernel_rfl) (by kernel_rfl) (by rfl) (fun wq hwq => ?_) ?_
  rotate_left
  · (go_simp <;> with_reducible rfl)
  simp only [List.setIfInBounds_toArray, List.set_cons_zero, List.set_cons_succ]
  refine wpAnyH_tk (i := 2) 10 (v := ?_) rfl rfl (by kernel_rfl) (by kernel_rfl) (by kernel_rfl) (by rfl) (fun wq hwq => ?_) ?_
  rotate_left
  · (go_simp <;> with_reducible rfl)
  simp only [List.setIfInBounds_toArray, List.set_cons_zero, List.set_cons_succ]
  refine wpAnyH_tk (i := 3) 11 (v := ?_) rfl rfl (by kernel_rfl) (by kernel_rfl) (by kernel_rfl) (by rfl) (fun wq hwq => ?_) ?_
  rotate_left
  · (go_simp <;> with_reducible rfl)
  simp only [List.setIfInBounds_toArray, List.set_cons_zero, List.set_cons_succ]
  refine wpAnyH_tk (i := 4) 12 (v := ?_) rfl rfl (by kernel_rfl) (by kernel_rfl) (by kernel_rfl) (by rfl) (fun wq hwq => ?_) ?_
  rotate_left
  · (go_simp <;> with_reducible rfl)
  simp only [List.setIfInBounds_toArray, List.set_cons_zero, List.set_cons_succ]
  refine wpAnyH_tk (i := 5) 13 (v := ?_) rfl rfl (by kernel_rfl) (by kernel_rfl) (by kernel_rfl) (by rfl) (fun wq hwq => ?_) ?_
  rotate_left
  · (have hx := cell_later hwq HCD.out; go_simp <;> with_reducible rfl)
  simp only [List.setIfInBounds_toArray, List.set_cons_zero, List.set_cons_succ]
  refine wpAnyH_tk (i := 6) 14 (v := ?_) rfl rfl (by kernel_rfl) (by kernel_rfl) (by kernel_rfl) (by rfl) (fun wq hwq => ?_) ?_
  rotate_left
  · (go_simp <;> with_reducible rfl)
  simp only [List.setIfInBounds_toArray, List.set_cons_zero, List.set_cons_succ]
  refine wpAnyH_tk (i := 7) 15 (v := ?_) rfl rfl (by kernel_rfl) (by kernel_rfl) (by kernel_rfl) (by rfl) (fun wq hwq => ?_) ?_
  rotate_left
  · (go_simp <;> with_reducible rfl)
  simp only [List.setIfInBounds_toArray, List.set_cons_zero, List.set_cons_succ]
  refine wpAnyH_tk (i := 8) 16 (v := ?_) rfl rfl (by kernel_rfl) (by kernel_rfl) (by kernel_rfl) (by rfl) (fun wq hwq => ?_) ?_
  rotate_left
  · (go_simp <;> with_reducible rfl)
  simp only [List.setIfInBounds_toArray, List.set_cons_zero, List.set_cons_succ]
  refine wpAnyH_not (i := 9) 17 rfl rfl (by kernel_rfl) (by kernel_rfl) (by kernel_rfl) (by rfl) ?_
  simp only [List.setIfInBounds_toArray, List.set_cons_zero, List.set_cons_succ]
  refine wpAnyH_not (i := 10) 18 rfl rfl (by kernel_rfl) (by kernel_rfl) (by kernel_rfl) (by rfl) ?_
  simp only [List.setIfInBounds_toArray, List.set_cons_zero, List.set_cons_succ]
  refine wpAnyH_not (i := 11) 19 rfl rfl (by kernel_rfl) (by kernel_rfl) (by kernel_rfl) (by rfl) ?_
  simp only [List.setIfInBounds_toArray, List.set_cons_zero, List.set_cons_succ]
  refine wpAnyH_not (i := 12) 20 rfl rfl (by kernel_rfl) (by kernel_rfl) (by kernel_rfl) (by rfl) ?_
  simp only [List.setIfInBounds_toArray, List.set_cons_zero, List.set_cons_succ]
  refine wpAnyH_not (i := 13) 21 rfl rfl (by kernel_rfl) (by kernel_rfl) (by kernel_rfl) (by rfl) ?_
  simp only [List.setIfInBounds_toArray, List.set_cons_zero, List.set_cons_succ]
  refine wpAnyH_not (i := 14) 22 rfl rfl (by kernel_rfl) (by kernel_rfl) (by kernel_rfl) (by rfl) ?_
  simp only [List.setIfInBounds_toArray, List.set_cons_zero, List.set_cons_succ]
  refine wpAnyH_not (i := 15) 23 rfl rfl (by kernel_rfl) (by kernel_rfl) (by kernel_rfl) (by rfl) ?_
  simp only [List.setIfInBounds_toArray, List.set_cons_zero, List.set_cons_succ]
  refine wpAnyH_not (i := 16) 24 rfl rfl (by kernel_rfl) (by kernel_rfl) (by kernel_rfl) (by rfl) ?_
  simp only [List.setIfInBounds_toArray, List.set_cons_zero, List.set_cons_succ]
  refine wpAnyH_not (i := 17) 25 rfl rfl (by kernel_rfl) (by kernel_rfl) (by kernel_rfl) (by rfl) ?_
  simp only [List.setIfInBounds_toArray, List.set_cons_zero, List.set_cons_succ]
  refine wpAnyH_tk (i := 18) 26 (v := ?_) rfl rfl (by kernel_rfl) (by kernel_rfl) (by kernel_rfl) (by rfl) (fun wq hwq => ?_) ?_
  rotate_left
  · (go_simp <;> with_reducible rfl)
  simp only [List.setIfInBounds_toArray, List.set_cons_zero, List.set_cons_succ]
  refine wpAnyH_done (by kernel_rfl) ?_ _
  refine NoPanic.normal ?_
  go_wp2
  go_ret2
  exact ⟨rfl, HB.out⟩

set_option maxRecDepth 100000 in
set_option maxHeartbeats 1000000 in
theorem inside_sum (b off : Nat) (cap n l : Nat) (ps : List Nat) (w : World) (hn : l = n + 4) (h1 : 1 ≤ n) (hm : l ≤ 1000000000) (hl : ps.length = l) (h : SeenAt w (some ⟨b, off, none⟩) cap ps) (h0 : ps.getD 0 0 = 1) :
    Calls Try.prog 57 #[.slice (some ⟨b, off, none⟩) l cap] w fun e w' => e = .returned (insV ps (.tuple #[.slice (some ⟨b, off + 1, none⟩) (n - 1) (cap - 1), .bool true])) ∧ Below w.heap.size w w' := by
  have hsz : IntKind.i64.wrap ((l : Int) - 4) = (n : Int) := by rw [IntWalk.i64_in _ (by omega)]; omega
  have hd : decide ((n : Int) < 1) = false := by simp; omega
  have j1 : (0 : Int) < (l : Int) := by omega
  have j2 : 0 < l := by omega
  have hle := h.le
  rw [hl] at hle
  have hcx : w.cell? ⟨b, off, none⟩ = some (.int .u8 1) := by
    obtain ⟨b', off', e, hc⟩ := h.cell 0 (by omega)
    cases e
    rw [Nat.add_zero, h0] at hc
    exact hc
  have HB : Hid (Below w.heap.size w w.drew) := (Below.refl _ _).drew
  have HCD := Lib.hid (cell_later HB.out hcx)
  have HSD := Lib.hid (h.below HB.out)
  have HL := Lib.hid hl
  have HIN : Hid (inB ps = decide (ps.drop n = be4 (Crc.sum (ps.take n)))) := by
    show _ = _
    unfold inB cutMg
    rw [h0, hl, show l - 4 = n by omega, show decide (5 ≤ l) = true by simp; omega]
    simp
  have HL1 : Hid ((ps.drop n).length = 4) := by show _ = _; rw [List.length_drop]; omega
  have HL2 : Hid ((ps.take n).length = n) := by show _ = _; rw [List.length_take]; omega
  have HS1 : Hid (SeenAt w.drew (fromA (some ⟨b, off, none⟩) cap n) (cap - n) (ps.drop n)) := HSD.out.from n (by omega)
  have HS2 : Hid (SeenAt w.drew (some ⟨b, off, none⟩) cap (ps.take n)) := HSD.out.take n
  clear hl h hcx h0
  have hl4 : l - n = 4 := by omega
  have hnl : n ≤ l := by omega
  clear hn
  go_enter Try.func57, Try.ntmps57
  go_wp2_with fail
  refine wp_region_ext (by kernel_rfl) ?_
  generalize w.drew = w2 at *
  refine wpAnyH_tk (i := 0) 8 (v := ?_) rfl rfl (by kernel_rfl) (by kernel_rfl) (by kernel_rfl) (by rfl) (fun wq hwq => ?_) ?_
  rotate_left
  · (go_simp <;> with_reducible rfl)
  simp only [List.setIfInBounds_toArray, List.set_cons_zero, List.set_cons_succ]
  refine wpAnyH_tk (i := 1) 9 (v := ?_) rfl rfl (by kernel_rfl) (by kernel_rfl) (by kernel_rfl) (by rfl) (fun wq hwq => ?_) ?_
  rotate_left
  · (go_simp <;> with_reducible rfl)
  simp only [List.setIfInBounds_toArray, List.set_cons_zero, List.set_cons_succ]
  refine wpAnyH_tk (i := 2) 10 (v := ?_) rfl rfl (by kernel_rfl) (by kernel_rfl) (by kernel_rfl) (by rfl) (fun wq hwq => ?_) ?_
  rotate_left
  · (go_simp <;> with_reducible rfl)
  simp only [List.setIfInBounds_toArray, List.set_cons_zero, List.set_cons_succ]
  refine wpAnyH_tk (i := 3) 11 (v := ?_) rfl rfl (by kernel_rfl) (by kernel_rfl) (by kernel_rfl) (by rfl) (fun wq hwq => ?_) ?_
  rotate_left
  · (go_simp <;> with_reducible rfl)
  simp only [List.setIfInBounds_toArray, List.set_cons_zero, List.set_cons_succ]
  refine wpAnyH_tk (i := 4) 12 (v := ?_) rfl rfl (by kernel_rfl) (by kernel_rfl) (by kernel_rfl) (by rfl) (fun wq hwq => ?_) ?_
  rotate_left
  · (go_simp <;> with_reducible rfl)
  simp only [List.setIfInBounds_toArray, List.set_cons_zero, List.set_cons_succ]
  refine wpAnyH_tk (i := 5) 13 (v := ?_) rfl rfl (by kernel_rfl) (by kernel_rfl) (by kernel_rfl) (by rfl) (fun wq hwq => ?_) ?_
  rotate_left
  · (have hx := cell_later hwq HCD.out; go_simp <;> with_reducible rfl)
  simp only [List.setIfInBounds_toArray, List.set_cons_zero, List.set_cons_succ]
  refine wpAnyH_tk (i := 6) 14 (v := ?_) rfl rfl (by kernel_rfl) (by kernel_rfl) (by kernel_rfl) (by rfl) (fun wq hwq => ?_) ?_
  rotate_left
  · (go_simp <;> with_reducible rfl)
  simp only [List.setIfInBounds_toArray, List.set_cons_zero, List.set_cons_succ]
  refine wpAnyH_tk (i := 7) 15 (v := ?_) rfl rfl (by kernel_rfl) (by kernel_rfl) (by kernel_rfl) (by rfl) (fun wq hwq => ?_) ?_
  rotate_left
  · (go_simp <;> with_reducible rfl)
  simp only [List.setIfInBounds_toArray, List.set_cons_zero, List.set_cons_succ]
  refine wpAnyH_tk (i := 8) 16 (v := ?_) rfl rfl (by kernel_rfl) (by kernel_rfl) (by kernel_rfl) (by rfl) (fun wq hwq => ?_) ?_
  rotate_left
  · (go_simp <;> with_reducible rfl)
  simp only [List.setIfInBounds_toArray, List.set_cons_zero, List.set_cons_succ]
  refine wpAnyH_tk (i := 9) 17 (v := ?_) rfl rfl (by kernel_rfl) (by kernel_rfl) (by kernel_rfl) (by rfl) (fun wq hwq => ?_) ?_
  rotate_left
  · (go_simp <;> with_reducible rfl)
  simp only [List.setIfInBounds_toArray, List.set_cons_zero, List.set_cons_succ]
  refine wpAnyH_tk (i := 10) 18 (v := ?_) rfl rfl (by kernel_rfl) (by kernel_rfl) (by kernel_rfl) (by rfl) (fun wq hwq => ?_) ?_
  rotate_left
  · (go_simp <;> with_reducible rfl)
  simp only [List.setIfInBounds_toArray, List.set_cons_zero, List.set_cons_succ]
  refine wpAnyH_tk (i := 11) 19 (v := ?_) rfl rfl (by kernel_rfl) (by kernel_rfl) (by kernel_rfl) (by rfl) (fun wq hwq => ?_) ?_
  rotate_left
  · (have hx := slice_from (some ⟨b, off, none⟩) l cap n (by omega) wq; have hx' := slice_from' (some ⟨b, off, none⟩) l cap n (by omega) wq; rw [hl4] at hx hx'; go_simp <;> with_reducible rfl)
  simp only [List.setIfInBounds_toArray, List.set_cons_zero, List.set_cons_succ]
  refine wpAnyH_tk (i := 12) 20 (v := ?_) rfl rfl (by kernel_rfl) (by kernel_rfl) (by kernel_rfl) (by rfl) (fun wq hwq => ?_) ?_
  rotate_left
  · (go_simp <;> with_reducible rfl)
  simp only [List.setIfInBounds_toArray, List.set_cons_zero, List.set_cons_succ]
  refine wpAnyH_tk (i := 13) 21 (v := ?_) rfl rfl (by kernel_rfl) (by kernel_rfl) (by kernel_rfl) (by rfl) (fun wq hwq => ?_) ?_
  rotate_left
  · (go_simp <;> with_reducible rfl)
  simp only [List.setIfInBounds_toArray, List.set_cons_zero, List.set_cons_succ]
  refine wpAnyH_tk (i := 14) 22 (v := ?_) rfl rfl (by kernel_rfl) (by kernel_rfl) (by kernel_rfl) (by rfl) (fun wq hwq => ?_) ?_
  rotate_left
  · (have hx := seen_take (some ⟨b, off, none⟩) l cap n ps wq HL.out HSD.out (by omega); have hx' := seen_take' (some ⟨b, off, none⟩) l cap n ps wq HL.out HSD.out (by omega); go_simp <;> with_reducible rfl)
  simp only [List.setIfInBounds_toArray, List.set_cons_zero, List.set_cons_succ]
  refine wpAnyH_one (i := 15) rfl (by kernel_rfl) (by rfl) (fun K hK => ?_)
  go_simp
  refine (checksum_own _ _ _ (ps.take n) _ HL2.out HS2.out).mono ?_
  rintro e w3 ⟨g3, c3, rfl, ho3, hb3⟩
  rw [be4_len]
  have HB3 := Lib.hid (HB.out.trans (hb3.mono HB.out.size))
  have HS3 := Lib.hid ho3.seenAt
  have HS13 := Lib.hid (HS1.out.below hb3)
  clear ho3
  refine hK.out _ _ hb3 ?_
  clear hK K
  clear hb3
  refine wpAnyH_one (i := 16) rfl (by kernel_rfl) (by rfl) (fun K hK => ?_)
  go_simp
  refine (equal_any _ _ _ _ _ _ (ps.drop n) (be4 (Crc.sum (ps.take n))) _ HL1.out (be4_len _) HS13.out HS3.out).mono ?_
  rintro e w' ⟨rfl, rfl⟩
  rw [← HIN.out]
  refine hK.out _ _ (Below.refl _ _) ?_
  clear hK K
  cases hb : inB ps
  · skip
    refine wpAnyH_tk (i := 17) 25 (v := ?_) rfl rfl (by kernel_rfl) (by kernel_rfl) (by kernel_rfl) (by rfl) (fun wq hwq => ?_) ?_
    rotate_left
    · (go_simp <;> with_reducible rfl)
    simp only [List.setIfInBounds_toArray, List.set_cons_zero, List.set_cons_succ]
    refine wpAnyH_tk (i := 18) 26 (v := ?_) rfl rfl (by kernel_rfl) (by kernel_rfl) (by kernel_rfl) (by rfl) (fun wq hwq => ?_) ?_
    rotate_left
    · (go_simp <;> with_reducible rfl)
    simp only [List.setIfInBounds_toArray, List.set_cons_zero, List.set_cons_succ]
    refine wpAnyH_done (by kernel_rfl) ?_ _
    refine NoPanic.normal ?_
    have HF : Hid (Ending.returned (.tuple #[.slice none 0 0, .bool false]) = .returned (insV ps (.tuple #[.slice (some ⟨b, off + 1, none⟩) (n - 1) (cap - 1), .bool true]))) := by show _ = _; unfold insV; rw [hb]; rfl
    go_wp2
    go_ret2
    exact ⟨HF.out, HB3.out⟩
  · skip
    refine wpAnyH_tk (i := 17) 25 (v := ?_) rfl rfl (by kernel_rfl) (by kernel_rfl) (by kernel_rfl) (by rfl) (fun wq hwq => ?_) ?_
    rotate_left
    · (go_simp <;> with_reducible rfl)
    simp only [List.setIfInBounds_toArray, List.set_cons_zero, List.set_cons_succ]
    refine wpAnyH_tk (i := 18) 26 (v := ?_) rfl rfl (by kernel_rfl) (by kernel_rfl) (by kernel_rfl) (by rfl) (fun wq hwq => ?_) ?_
    rotate_left
    · (go_simp <;> with_reducible rfl)
    simp only [List.setIfInBounds_toArray, List.set_cons_zero, List.set_cons_succ]
    refine wpAnyH_done (by kernel_rfl) ?_ _
    refine NoPanic.normal ?_
    have HF : Hid (Ending.returned (.tuple #[.slice (some ⟨b, off + 1, none⟩) (n - 1) (cap - 1), .bool true]) = .returned (insV ps (.tuple #[.slice (some ⟨b, off + 1, none⟩) (n - 1) (cap - 1), .bool true]))) := by show _ = _; unfold insV; rw [hb]; rfl
    go_wp2
    go_ret2
    exact ⟨HF.out, HB3.out⟩

/-- What is between the first byte and the checksum, if both are right. -/
theorem inside_no (a : Option Addr) (cap l : Nat) (ps : List Nat) (w : World) (hl : ps.length = l) (hm : l ≤ 1000000000) (h : SeenAt w a cap ps) (hno : inB ps = false) :
    Calls Try.prog 57 #[.slice a l cap] w fun e w' => e = .returned (.tuple #[.slice none 0 0, .bool false]) ∧ Below w.heap.size w w' := by
  by_cases h5 : l < 5
  · exact inside_short a cap l w h5
  · obtain ⟨b, off, rfl, hc⟩ := h.cell 0 (by omega)
    rw [Nat.add_zero] at hc
    by_cases h0 : ps.getD 0 0 = 1
    · refine (inside_sum b off cap (l - 4) l ps w (by omega) (by omega) hm hl h h0).mono fun e w' hx => ?_
      unfold insV at hx
      rw [if_neg (by rw [hno]; simp)] at hx
      exact hx
    · exact inside_first b off cap l _ w (by omega) hm hc h0

theorem inside_yes (a : Option Addr) (cap l : Nat) (ps : List Nat) (w : World) (hl : ps.length = l) (hm : l ≤ 1000000000) (h : SeenAt w a cap ps) (hyes : inB ps = true) :
    Calls Try.prog 57 #[.slice a l cap] w fun e w' => ∃ x c, e = .returned (.tuple #[.slice x (l - 5) c, .bool true]) ∧ SeenAt w' x c ((cutMg ps).drop 1) ∧ ((cutMg ps).drop 1).length = l - 5 ∧ Below w.heap.size w w' := by
  have hy := hyes
  unfold inB at hy
  simp only [Bool.and_eq_true, decide_eq_true_eq] at hy
  obtain ⟨⟨h5, h0⟩, _⟩ := hy
  obtain ⟨b, off, rfl, hc⟩ := h.cell 0 (by omega)
  have hle := h.le
  refine (inside_sum b off cap (l - 4) l ps w (by omega) (by omega) hm hl h h0).mono fun e w' hx => ?_
  unfold insV at hx
  rw [if_pos hyes] at hx
  obtain ⟨rfl, hb⟩ := hx
  refine ⟨_, _, by rw [show l - 4 - 1 = l - 5 by omega], ?_, ?_, hb⟩
  · have := ((h.below hb).take (l - 4)).from 1 (by rw [List.length_take]; omega)
    rw [show fromA (some ⟨b, off, none⟩) cap 1 = some ⟨b, off + 1, none⟩ by unfold fromA; rw [if_neg (by omega)]; simp [Go.WideShapes.add_plain]] at this
    unfold cutMg
    rw [hl]
    exact this
  · unfold cutMg
    rw [List.length_drop, List.length_take]
    omega

end Go.Proofs.Ytggjpjpemgpeeaa
