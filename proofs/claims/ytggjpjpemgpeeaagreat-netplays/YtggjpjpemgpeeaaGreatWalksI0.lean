/-
  inside.
  msg.Decode.
-/
import Derived.Test.YtggjpjpemgpeeaaGreatWalksH2
import Derived.Test.YtggjpjpemgpeeaaGreatWalksZ2
import Derived.Test.YtggjpjpemgpeeaaGreatExt3
import Derived.Test.YtggjpjpemgpeeaaGreatWalksH8
import Derived.Test.YtggjpjpemgpeeaaGreatWalksZ1
namespace Go.Proofs.YtggjpjpemgpeeaaGreat
open Go.RowKit


/-- Is the first byte right, and the checksum. -/
def inB (b : List Nat) : Bool := decide (5 ≤ b.length) && decide (b.getD 0 0 = 1) && decide (b.drop (b.length - 4) = be4 (Crc.sum (cutMg b)))

def insV (ps : List Nat) (v : Value) : Value := if inB ps = true then v else .tuple #[.slice none 0 0, .bool false]

theorem okMg_in (b : List Nat) : okMg b = (inB b && decide ((rdTM (inM b)).2 = ([], false)) && sndMg (ofTup (rdTM (inM b)).1)) := rfl

set_option maxRecDepth 100000 in
set_option maxHeartbeats 1000000 in
theorem inside_short (a : Option Addr) (cap l : Nat) (w : World) (h5 : l < 5) :
    Calls Tryz.prog 50 #[.slice a l cap] w fun e w' => e = .returned (.tuple #[.slice none 0 0, .bool false]) ∧ Below w.heap.size w w' := by
  have hsz : IntKind.i64.wrap ((l : Int) - 4) = (l : Int) - 4 := IntWalk.i64_in _ (by omega)
  have hd : decide ((l : Int) - 4 < 1) = true := by simp; omega
  go_enter Tryz.func50, Tryz.ntmps50
  go_wp2_with fail
  refine wp_region_ext (by kernel_rfl) ?_
  have HB : Hid (Below w.heap.size w w.drew) := (Below.refl _ _).drew
  generalize w.drew = w2 at *
  refine wpAnyH_tk (i := 0) 8 (v := ?_) rfl rfl (by kernel_rfl) (by kernel_rfl) (by kernel_rfl) (by rfl) (fun wq hwq => ?_) ?_
  rotate_left
  · (go_simp <;> with_reducible rfl)
  simp only [List.setIfInBounds_toArray, List.set_cons_zero, List.set_cons_succ]
  refine wpAnyH_tk (i := 1) 9 (v := ?_) rfl rfl (by kernel_rfl) (by kernel_rfl) (by kernel_rfl) (by rfl) (fun wq hwq => ?_) ?_
  rotate_left
  · (go_simp <;> with_reducible rfl)
  simp only [List.setIfInBounds_toArray, List.set_cons_zero, List.set_cons_succ]
  refine wpAnyH_tk (i := 2) 10 (v := ?_) rfl rfl (by kernel_rfl) (by kernel_rfl) (by kernel_rfl) (by rfl) (fun wq hwq => ?_) ?_
  rotate_left
  · (go_simp <;> with_reducible rfl)
  simp only [List.setIfInBounds_toArray, List.set_cons_zero, List.set_cons_succ]
  refine wpAnyH_not (i := 3) 11 rfl rfl (by kernel_rfl) (by kernel_rfl) (by kernel_rfl) (by rfl) ?_
  simp only [List.setIfInBounds_toArray, List.set_cons_zero, List.set_cons_succ]
  refine wpAnyH_not (i := 4) 12 rfl rfl (by kernel_rfl) (by kernel_rfl) (by kernel_rfl) (by rfl) ?_
  simp only [List.setIfInBounds_toArray, List.set_cons_zero, List.set_cons_succ]
  refine wpAnyH_not (i := 5) 13 rfl rfl (by kernel_rfl) (by kernel_rfl) (by kernel_rfl) (by rfl) ?_
  simp only [List.setIfInBounds_toArray, List.set_cons_zero, List.set_cons_succ]
  refine wpAnyH_not (i := 6) 14 rfl rfl (by kernel_rfl) (by kernel_rfl) (by kernel_rfl) (by rfl) ?_
  simp only [List.setIfInBounds_toArray, List.set_cons_zero, List.set_cons_succ]
  refine wpAnyH_tk (i := 7) 15 (v := ?_) rfl rfl (by kernel_rfl) (by kernel_rfl) (by kernel_rfl) (by rfl) (fun wq hwq => ?_) ?_
  rotate_left
  · (go_simp <;> with_reducible rfl)
  simp only [List.setIfInBounds_toArray, List.set_cons_zero, List.set_cons_succ]
  refine wpAnyH_tk (i := 8) 16 (v := ?_) rfl rfl (by kernel_rfl) (by kernel_rfl) (by kernel_rfl) (by rfl) (fun wq hwq => ?_) ?_
  rotate_left
  · (go_simp <;> with_reducible rfl)
  simp only [List.setIfInBounds_toArray, List.set_cons_zero, List.set_cons_succ]
  refine wpAnyH_not (i := 9) 17 rfl rfl (by kernel_rfl) (by kernel_rfl) (by kernel_rfl) (by rfl) ?_
  simp only [List.setIfInBounds_toArray, List.set_cons_zero, List.set_cons_succ]
  refine wpAnyH_not (i := 10) 18 rfl rfl (by kernel_rfl) (by kernel_rfl) (by kernel_rfl) (by rfl) ?_
  simp only [List.setIfInBounds_toArray, List.set_cons_zero, List.set_cons_succ]
  refine wpAnyH_not (i := 11) 19 rfl rfl (by kernel_rfl) (by kernel_rfl) (by kernel_rfl) (by rfl) ?_
  simp only [List.setIfInBounds_toArray, List.set_cons_zero, List.set_cons_succ]
  refine wpAnyH_not (i := 12) 20 rfl rfl (by kernel_rfl) (by kernel_rfl) (by kernel_rfl) (by rfl) ?_
  simp only [List.setIfInBounds_toArray, List.set_cons_zero, List.set_cons_succ]
  refine wpAnyH_not (i := 13) 21 rfl rfl (by kernel_rfl) (by kernel_rfl) (by kernel_rfl) (by rfl) ?_
  simp only [List.setIfInBounds_toArray, List.set_cons_zero, List.set_cons_succ]
  refine wpAnyH_not (i := 14) 22 rfl rfl (by kernel_rfl) (by kernel_rfl) (by kernel_rfl) (by rfl) ?_
  simp only [List.setIfInBounds_toArray, List.set_cons_zero, List.set_cons_succ]
  refine wpAnyH_not (i := 15) 23 rfl rfl (by kernel_rfl) (by kernel_rfl) (by kernel_rfl) (by rfl) ?_
  simp only [List.setIfInBounds_toArray, List.set_cons_zero, List.set_cons_succ]
  refine wpAnyH_not (i := 16) 24 rfl rfl (by kernel_rfl) (by kernel_rfl) (by kernel_rfl) (by rfl) ?_
  simp only [List.setIfInBounds_toArray, List.set_cons_zero, List.set_cons_succ]
  refine wpAnyH_not (i := 17) 25 rfl rfl (by kernel_rfl) (by kernel_rfl) (by kernel_rfl) (by rfl) ?_
  simp only [List.setIfInBounds_toArray, List.set_cons_zero, List.set_cons_succ]
  refine wpAnyH_tk (i := 18) 26 (v := ?_) rfl rfl (by kernel_rfl) (by kernel_rfl) (by kernel_rfl) (by rfl) (fun wq hwq => ?_) ?_
  rotate_left
  · (go_simp <;> with_reducible rfl)
  simp only [List.setIfInBounds_toArray, List.set_cons_zero, List.set_cons_succ]
  refine wpAnyH_done (by kernel_rfl) ?_ _
  refine NoPanic.normal ?_
  go_wp2
  go_ret2
  exact ⟨rfl, HB.out⟩

set_option maxRecDepth 100000 in
set_option maxHeartbeats 1000000 in
theorem inside_first (b off : Nat) (cap l : Nat) (x : Nat) (w : World) (h5 : 5 ≤ l) (hm : l ≤ 1000000000) (hc : w.cell? ⟨b, off, none⟩ = some (.int .u8 (x : Int))) (hx : x ≠ 1) :
    Calls Tryz.prog 50 #[.slice (some ⟨b, off, none⟩) l cap] w fun e w' => e = .returned (.tuple #[.slice none 0 0, .bool false]) ∧ Below w.heap.size w w' := by
  have hsz : IntKind.i64.wrap ((l : Int) - 4) = (l : Int) - 4 := IntWalk.i64_in _ (by omega)
  have hd : decide ((l : Int) - 4 < 1) = false := by simp; omega
  have j1 : (0 : Int) < (l : Int) := by omega
  have j2 : 0 < l := by omega
  have hne : ((x : Int) != 1) = true := by simp; omega
  have HCD := Lib.hid (cell_later (Below.drew (Below.refl w.heap.size w)) hc)
  have HB : Hid (Below w.heap.size w w.drew) := (Below.refl _ _).drew
  clear hc
  go_enter Tryz.func50, Tryz.ntmps50
  go_wp2_with fail
  refine wp_region_ext (by kernel_rfl) ?_
  generalize w.drew = w2 at *
  refine wpAnyH_tk (i := 0) 8 (v := ?_) rfl rfl (by kernel_rfl) (by kernel_rfl) (by kernel_rfl) (by rfl) (fun wq hwq => ?_) ?_
  rotate_left
  · (go_simp <;> with_reducible rfl)
  simp only [List.setIfInBounds_toArray, List.set_cons_zero, List.set_cons_succ]
  refine wpAnyH_tk (i := 1) 9 (v := ?_) rfl rfl (by kernel_rfl) (by kernel_rfl) (by kernel_rfl) (by rfl) (fun wq hwq => ?_) ?_
  rotate_left
  · (go_simp <;> with_reducible rfl)
  simp only [List.setIfInBounds_toArray, List.set_cons_zero, List.set_cons_succ]
  refine wpAnyH_tk (i := 2) 10 (v := ?_) rfl rfl (by kernel_rfl) (by kernel_rfl) (by kernel_rfl) (by rfl) (fun wq hwq => ?_) ?_
  rotate_left
  · (go_simp <;> with_reducible rfl)
  simp only [List.setIfInBounds_toArray, List.set_cons_zero, List.set_cons_succ]
  refine wpAnyH_tk (i := 3) 11 (v := ?_) rfl rfl (by kernel_rfl) (by kernel_rfl) (by kernel_rfl) (by rfl) (fun wq hwq => ?_) ?_
  rotate_left
  · (go_simp <;> with_reducible rfl)
  simp only [List.setIfInBounds_toArray, List.set_cons_zero, List.set_cons_succ]
  refine wpAnyH_tk (i := 4) 12 (v := ?_) rfl rfl (by kernel_rfl) (by kernel_rfl) (by kernel_rfl) (by rfl) (fun wq hwq => ?_) ?_
  rotate_left
  · (go_simp <;> with_reducible rfl)
  simp only [List.setIfInBounds_toArray, List.set_cons_zero, List.set_cons_succ]
  refine wpAnyH_tk (i := 5) 13 (v := ?_) rfl rfl (by kernel_rfl) (by kernel_rfl) (by kernel_rfl) (by rfl) (fun wq hwq => ?_) ?_
  rotate_left
  · (have hx := cell_later hwq HCD.out; go_simp <;> with_reducible rfl)
  simp only [List.setIfInBounds_toArray, List.set_cons_zero, List.set_cons_succ]
  refine wpAnyH_tk (i := 6) 14 (v := ?_) rfl rfl (by kernel_rfl) (by kernel_rfl) (by kernel_rfl) (by rfl) (fun wq hwq => ?_) ?_
  rotate_left
  · (go_simp <;> with_reducible rfl)
  simp only [List.setIfInBounds_toArray, List.set_cons_zero, List.set_cons_succ]
  refine wpAnyH_tk (i := 7) 15 (v := ?_) rfl rfl (by kernel_rfl) (by kernel_rfl) (by kernel_rfl) (by rfl) (fun wq hwq => ?_) ?_
  rotate_left
  · (go_simp <;> with_reducible rfl)
  simp only [List.setIfInBounds_toArray, List.set_cons_zero, List.set_cons_succ]
  refine wpAnyH_tk (i := 8) 16 (v := ?_) rfl rfl (by kernel_rfl) (by kernel_rfl) (by kernel_rfl) (by rfl) (fun wq hwq => ?_) ?_
  rotate_left
  · (go_simp <;> with_reducible rfl)
  simp only [List.setIfInBounds_toArray, List.set_cons_zero, List.set_cons_succ]
  refine wpAnyH_not (i := 9) 17 rfl rfl (by kernel_rfl) (by kernel_rfl) (by kernel_rfl) (by rfl) ?_
  simp only [List.setIfInBounds_toArray, List.set_cons_zero, List.set_cons_succ]
  refine wpAnyH_not (i := 10) 18 rfl rfl (by kernel_rfl) (by kernel_rfl) (by kernel_rfl) (by rfl) ?_
  simp only [List.setIfInBounds_toArray, List.set_cons_zero, List.set_cons_succ]
  refine wpAnyH_not (i := 11) 19 rfl rfl (by kernel_rfl) (by kernel_rfl) (by kernel_rfl) (by rfl) ?_
  simp only [List.setIfInBounds_toArray, List.set_cons_zero, List.set_cons_succ]
  refine wpAnyH_not (i := 12) 20 rfl rfl (by kernel_rfl) (by kernel_rfl) (by kernel_rfl) (by rfl) ?_
  simp only [List.setIfInBounds_toArray, List.set_cons_zero, List.set_cons_succ]
  refine wpAnyH_not (i := 13) 21 rfl rfl (by kernel_rfl) (by kernel_rfl) (by kernel_rfl) (by rfl) ?_
  simp only [List.setIfInBounds_toArray, List.set_cons_zero, List.set_cons_succ]
  refine wpAnyH_not (i := 14) 22 rfl rfl (by kernel_rfl) (by kernel_rfl) (by kernel_rfl) (by rfl) ?_
  simp only [List.setIfInBounds_toArray, List.set_cons_zero, List.set_cons_succ]
  refine wpAnyH_not (i := 15) 23 rfl rfl (by kernel_rfl) (by kernel_rfl) (by kernel_rfl) (by rfl) ?_
  simp only [List.setIfInBounds_toArray, List.set_cons_zero, List.set_cons_succ]
  refine wpAnyH_not (i := 16) 24 rfl rfl (by kernel_rfl) (by kernel_rfl) (by kernel_rfl) (by rfl) ?_
  simp only [List.setIfInBounds_toArray, List.set_cons_zero, List.set_cons_succ]
  refine wpAnyH_not (i := 17) 25 rfl rfl (by kernel_rfl) (by kernel_rfl) (by kernel_rfl) (by rfl) ?_
  simp only [List.setIfInBounds_toArray, List.set_cons_zero, List.set_cons_succ]
  refine wpAnyH_tk (i := 18) 26 (v := ?_) rfl rfl (by kernel_rfl) (by kernel_rfl) (by kernel_rfl) (by rfl) (fun wq hwq => ?_) ?_
  rotate_left
  · (go_simp <;> with_reducible rfl)
  simp only [List.setIfInBounds_toArray, List.set_cons_zero, List.set_cons_succ]
  refine wpAnyH_done (by kernel_rfl) ?_ _
  refine NoPanic.normal ?_
  go_wp2
  go_ret2
  exact ⟨rfl, HB.out⟩

set_option maxRecDepth 100000 in
set_option maxHeartbeats 1000000 in
theorem inside_sum (b off : Nat) (cap n l : Nat) (ps : List Nat) (w : World) (hn : l = n + 4) (h1 : 1 ≤ n) (hm : l ≤ 1000000000) (hl : ps.length = l) (h : SeenAt w (some ⟨b, off, none⟩) cap ps) (h0 : ps.getD 0 0 = 1) :
    Calls Tryz.prog 50 #[.slice (some ⟨b, off, none⟩) l cap] w fun e w' => e = .returned (insV ps (.tuple #[.slice (some ⟨b, off + 1, none⟩) (n - 1) (cap - 1), .bool true])) ∧ Below w.heap.size w w' := by
  have hsz : IntKind.i64.wrap ((l : Int) - 4) = (n : Int) := by rw [IntWalk.i64_in _ (by omega)]; omega
  have hd : decide ((n : Int) < 1) = false := by simp; omega
  have j1 : (0 : Int) < (l : Int) := by omega
  have j2 : 0 < l := by omega
  have hle := h.le
  rw [hl] at hle
  have hcx : w.cell? ⟨b, off, none⟩ = some (.int .u8 1) := by
    obtain ⟨b', off', e, hc⟩ := h.cell 0 (by omega)
    cases e
    rw [Nat.add_zero, h0] at hc
    exact hc
  have HB : Hid (Below w.heap.size w w.drew) := (Below.refl _ _).drew
  have HCD := Lib.hid (cell_later HB.out hcx)
  have HSD := Lib.hid (h.below HB.out)
  have HL := Lib.hid hl
  have HIN : Hid (inB ps = decide (ps.drop n = be4 (Crc.sum (ps.take n)))) := by
    show _ = _
    unfold inB cutMg
    rw [h0, hl, show l - 4 = n by omega, show decide (5 ≤ l) = true by simp; omega]
    simp
  have HL1 : Hid ((ps.drop n).length = 4) := by show _ = _; rw [List.length_drop]; omega
  have HL2 : Hid ((ps.take n).length = n) := by show _ = _; rw [List.length_take]; omega
  have HS1 : Hid (SeenAt w.drew (fromA (some ⟨b, off, none⟩) cap n) (cap - n) (ps.drop n)) := HSD.out.from n (by omega)
  have HS2 : Hid (SeenAt w.drew (some ⟨b, off, none⟩) cap (ps.take n)) := HSD.out.take n
  clear hl h hcx h0
  have hl4 : l - n = 4 := by omega
  have hnl : n ≤ l := by omega
  clear hn
  go_enter Tryz.func50, Tryz.ntmps50
  go_wp2_with fail
  refine wp_region_ext (by kernel_rfl) ?_
  generalize w.drew = w2 at *
  refine wpAnyH_tk (i := 0) 8 (v := ?_) rfl rfl (by kernel_rfl) (by kernel_rfl) (by kernel_rfl) (by rfl) (fun wq hwq => ?_) ?_
  rotate_left
  · (go_simp <;> with_reducible rfl)
  simp only [List.setIfInBounds_toArray, List.set_cons_zero, List.set_cons_succ]
  refine wpAnyH_tk (i := 1) 9 (v := ?_) rfl rfl (by kernel_rfl) (by kernel_rfl) (by kernel_rfl) (by rfl) (fun wq hwq => ?_) ?_
  rotate_left
  · (go_simp <;> with_reducible rfl)
  simp only [List.setIfInBounds_toArray, List.set_cons_zero, List.set_cons_succ]
  refine wpAnyH_tk (i := 2) 10 (v := ?_) rfl rfl (by kernel_rfl) (by kernel_rfl) (by kernel_rfl) (by rfl) (fun wq hwq => ?_) ?_
  rotate_left
  · (go_simp <;> with_reducible rfl)
  simp only [List.setIfInBounds_toArray, List.set_cons_zero, List.set_cons_succ]
  refine wpAnyH_tk (i := 3) 11 (v := ?_) rfl rfl (by kernel_rfl) (by kernel_rfl) (by kernel_rfl) (by rfl) (fun wq hwq => ?_) ?_
  rotate_left
  · (go_simp <;> with_reducible rfl)
  simp only [List.setIfInBounds_toArray, List.set_cons_zero, List.set_cons_succ]
  refine wpAnyH_tk (i := 4) 12 (v := ?_) rfl rfl (by kernel_rfl) (by kernel_rfl) (by kernel_rfl) (by rfl) (fun wq hwq => ?_) ?_
  rotate_left
  · (go_simp <;> with_reducible rfl)
  simp only [List.setIfInBounds_toArray, List.set_cons_zero, List.set_cons_succ]
  refine wpAnyH_tk (i := 5) 13 (v := ?_) rfl rfl (by kernel_rfl) (by kernel_rfl) (by kernel_rfl) (by rfl) (fun wq hwq => ?_) ?_
  rotate_left
  · (have hx := cell_later hwq HCD.out; go_simp <;> with_reducible rfl)
  simp only [List.setIfInBounds_toArray, List.set_cons_zero, List.set_cons_succ]
  refine wpAnyH_tk (i := 6) 14 (v := ?_) rfl rfl (by kernel_rfl) (by kernel_rfl) (by kernel_rfl) (by rfl) (fun wq hwq => ?_) ?_
  rotate_left
  · (go_simp <;> with_reducible rfl)
  simp only [List.setIfInBounds_toArray, List.set_cons_zero, List.set_cons_succ]
  refine wpAnyH_tk (i := 7) 15 (v := ?_) rfl rfl (by kernel_rfl) (by kernel_rfl) (by kernel_rfl) (by rfl) (fun wq hwq => ?_) ?_
  rotate_left
  · (go_simp <;> with_reducible rfl)
  simp only [List.setIfInBounds_toArray, List.set_cons_zero, List.set_cons_succ]
  refine wpAnyH_tk (i := 8) 16 (v := ?_) rfl rfl (by kernel_rfl) (by kernel_rfl) (by kernel_rfl) (by rfl) (fun wq hwq => ?_) ?_
  rotate_left
  · (go_simp <;> with_reducible rfl)
  simp only [List.setIfInBounds_toArray, List.set_cons_zero, List.set_cons_succ]
  refine wpAnyH_tk (i := 9) 17 (v := ?_) rfl rfl (by kernel_rfl) (by kernel_rfl) (by kernel_rfl) (by rfl) (fun wq hwq => ?_) ?_
  rotate_left
  · (go_simp <;> with_reducible rfl)
  simp only [List.setIfInBounds_toArray, List.set_cons_zero, List.set_cons_succ]
  refine wpAnyH_tk (i := 10) 18 (v := ?_) rfl rfl (by kernel_rfl) (by kernel_rfl) (by kernel_rfl) (by rfl) (fun wq hwq => ?_) ?_
  rotate_left
  · (go_simp <;> with_reducible rfl)
  simp only [List.setIfInBounds_toArray, List.set_cons_zero, List.set_cons_succ]
  refine wpAnyH_tk (i := 11) 19 (v := ?_) rfl rfl (by kernel_rfl) (by kernel_rfl) (by kernel_rfl) (by rfl) (fun wq hwq => ?_) ?_
  rotate_left
  · (have hx := slice_from (some ⟨b, off, none⟩) l cap n (by omega) wq; have hx' := slice_from' (some ⟨b, off, none⟩) l cap n (by omega) wq; rw [hl4] at hx hx'; go_simp <;> with_reducible rfl)
  simp only [List.setIfInBounds_toArray, List.set_cons_zero, List.set_cons_succ]
  refine wpAnyH_tk (i := 12) 20 (v := ?_) rfl rfl (by kernel_rfl) (by kernel_rfl) (by kernel_rfl) (by rfl) (fun wq hwq => ?_) ?_
  rotate_left
  · (go_simp <;> with_reducible rfl)
  simp only [List.setIfInBounds_toArray, List.set_cons_zero, List.set_cons_succ]
  refine wpAnyH_tk (i := 13) 21 (v := ?_) rfl rfl (by kernel_rfl) (by kernel_rfl) (by kernel_rfl) (by rfl) (fun wq hwq => ?_) ?_
  rotate_left
  · (go_simp <;> with_reducible rfl)
  simp only [List.setIfInBounds_toArray, List.set_cons_zero, List.set_cons_succ]
  refine wpAnyH_tk (i := 14) 22 (v := ?_) rfl rfl (by kernel_rfl) (by kernel_rfl) (by kernel_rfl) (by rfl) (fun wq hwq => ?_) ?_
  rotate_left
  · (have hx := seen_take (some ⟨b, off, none⟩) l cap n ps wq HL.out HSD.out (by omega); have hx' := seen_take' (some ⟨b, off, none⟩) l cap n ps wq HL.out HSD.out (by omega); go_simp <;> with_reducible rfl)
  simp only [List.setIfInBounds_toArray, List.set_cons_zero, List.set_cons_succ]
  refine wpAnyH_one (i := 15) rfl (by kernel_rfl) (by rfl) (fun K hK => ?_)
  go_simp
  refine (checksum_own _ _ _ (ps.take n) _ HL2.out HS2.out).mono ?_
  rintro e w3 ⟨g3, c3, rfl, ho3, hb3⟩
  rw [be4_len]
  have HB3 := Lib.hid (HB.out.trans (hb3.mono HB.out.size))
  have HS3 := Lib.hid ho3.seenAt
  have HS13 := Lib.hid (HS1.out.below hb3)
  clear ho3
  refine hK.out _ _ hb3 ?_
  clear hK K
  clear hb3
  refine wpAnyH_one (i := 16) rfl (by kernel_rfl) (by rfl) (fun K hK => ?_)
  go_simp
  refine (equal_any _ _ _ _ _ _ (ps.drop n) (be4 (Crc.sum (ps.take n))) _ HL1.out (be4_len _) HS13.out HS3.out).mono ?_
  rintro e w' ⟨rfl, rfl⟩
  rw [← HIN.out]
  refine hK.out _ _ (Below.refl _ _) ?_
  clear hK K
  cases hb : inB ps
  · skip
    refine wpAnyH_tk (i := 17) 25 (v := ?_) rfl rfl (by kernel_rfl) (by kernel_rfl) (by kernel_rfl) (by rfl) (fun wq hwq => ?_) ?_
    rotate_left
    · (go_simp <;> with_reducible rfl)
    simp only [List.setIfInBounds_toArray, List.set_cons_zero, List.set_cons_succ]
    refine wpAnyH_tk (i := 18) 26 (v := ?_) rfl rfl (by kernel_rfl) (by kernel_rfl) (by kernel_rfl) (by rfl) (fun wq hwq => ?_) ?_
    rotate_left
    · (go_simp <;> with_reducible rfl)
    simp only [List.setIfInBounds_toArray, List.set_cons_zero, List.set_cons_succ]
    refine wpAnyH_done (by kernel_rfl) ?_ _
    refine NoPanic.normal ?_
    have HF : Hid (Ending.returned (.tuple #[.slice none 0 0, .bool false]) = .returned (insV ps (.tuple #[.slice (some ⟨b, off + 1, none⟩) (n - 1) (cap - 1), .bool true]))) := by show _ = _; unfold insV; rw [hb]; rfl
    go_wp2
    go_ret2
    exact ⟨HF.out, HB3.out⟩
  · skip
    refine wpAnyH_tk (i := 17) 25 (v := ?_) rfl rfl (by kernel_rfl) (by kernel_rfl) (by kernel_rfl) (by rfl) (fun wq hwq => ?_) ?_
    rotate_left
    · (go_simp <;> with_reducible rfl)
    simp only [List.setIfInBounds_toArray, List.set_cons_zero, List.set_cons_succ]
    refine wpAnyH_tk (i := 18) 26 (v := ?_) rfl rfl (by kernel_rfl) (by kernel_rfl) (by kernel_rfl) (by rfl) (fun wq hwq => ?_) ?_
    rotate_left
    · (go_simp <;> with_reducible rfl)
    simp only [List.setIfInBounds_toArray, List.set_cons_zero, List.set_cons_succ]
    refine wpAnyH_done (by kernel_rfl) ?_ _
    refine NoPanic.normal ?_
    have HF : Hid (Ending.returned (.tuple #[.slice (some ⟨b, off + 1, none⟩) (n - 1) (cap - 1), .bool true]) = .returned (insV ps (.tuple #[.slice (some ⟨b, off + 1, none⟩) (n - 1) (cap - 1), .bool true]))) := by show _ = _; unfold insV; rw [hb]; rfl
    go_wp2
    go_ret2
    exact ⟨HF.out, HB3.out⟩

/-- What is between the first byte and the checksum, if both are right. -/
theorem inside_no (a : Option Addr) (cap l : Nat) (ps : List Nat) (w : World) (hl : ps.length = l) (hm : l ≤ 1000000000) (h : SeenAt w a cap ps) (hno : inB ps = false) :
    Calls Tryz.prog 50 #[.slice a l cap] w fun e w' => e = .returned (.tuple #[.slice none 0 0, .bool false]) ∧ Below w.heap.size w w' := by
  by_cases h5 : l < 5
  · exact inside_short a cap l w h5
  · obtain ⟨b, off, rfl, hc⟩ := h.cell 0 (by omega)
    rw [Nat.add_zero] at hc
    by_cases h0 : ps.getD 0 0 = 1
    · refine (inside_sum b off cap (l - 4) l ps w (by omega) (by omega) hm hl h h0).mono fun e w' hx => ?_
      unfold insV at hx
      rw [if_neg (by rw [hno]; simp)] at hx
      exact hx
    · exact inside_first b off cap l _ w (by omega) hm hc h0

theorem inside_yes (a : Option Addr) (cap l : Nat) (ps : List Nat) (w : World) (hl : ps.length = l) (hm : l ≤ 1000000000) (h : SeenAt w a cap ps) (hyes : inB ps = true) :
    Calls Tryz.prog 50 #[.slice a l cap] w fun e w' => ∃ x c, e = .returned (.tuple #[.slice x (l - 5) c, .bool true]) ∧ SeenAt w' x c ((cutMg ps).drop 1) ∧ ((cutMg ps).drop 1).length = l - 5 ∧ Below w.heap.size w w' := by
  have hy := hyes
  unfold inB at hy
  simp only [Bool.and_eq_true, decide_eq_true_eq] at hy
  obtain ⟨⟨h5, h0⟩, _⟩ := hy
  obtain ⟨b, off, rfl, hc⟩ := h.cell 0 (by omega)
  have hle := h.le
  refine (inside_sum b off cap (l - 4) l ps w (by omega) (by omega) hm hl h h0).mono fun e w' hx => ?_
  unfold insV at hx
  rw [if_pos hyes] at hx
  obtain ⟨rfl, hb⟩ := hx
  refine ⟨_, _, by rw [show l - 4 - 1 = l - 5 by omega], ?_, ?_, hb⟩
  · have := ((h.below hb).take (l - 4)).from 1 (by rw [List.length_take]; omega)
    rw [show fromA (some ⟨b, off, none⟩) cap 1 = some ⟨b, off + 1, none⟩ by unfold fromA; rw [if_neg (by omega)]; simp [Go.WideShapes.add_plain]] at this
    unfold cutMg
    rw [hl]
    exact this
  · unfold cutMg
    rw [List.length_drop, List.length_take]
    omega

end Go.Proofs.YtggjpjpemgpeeaaGreat

namespace Go.Proofs.YtggjpjpemgpeeaaGreat
open Go.RowKit

theorem wpList_ung {P : Program} {ops : Array Oper} {rest : List Oper} {o : Oper} {a : Act} {Q : Exit → Act → World → Prop} {w : World} (hw : Region.wanted o (yielded ops a.tmps) = true)
    (h : wpList P ops Q ({ o with guard := none } :: rest) a w) : wpList P ops Q (o :: rest) a w := by
  unfold wpList at h ⊢
  rw [if_pos (show Region.wanted { o with guard := none } (yielded ops a.tmps) = true from rfl)] at h
  rw [if_pos hw]
  exact h

theorem fin_dec (s : Pk.St) : Pk.fin s = decide (s = ([], false)) := by
  obtain ⟨l, b⟩ := s
  unfold Pk.fin
  cases b <;> cases l <;> simp

theorem rm0_cells : rm0.cells = #[.int .i64 0, .int .i64 0, .int .i64 0, .int .i64 0, .int .i64 0, .int .i64 0, .int .i64 0, .int .i64 0, .string ⟨#[]⟩, .int .i64 0, .int .u32 0, .slice none 0 0, .int .i64 0, .slice none 0 0, .slice none 0 0, .int .i64 0, .slice none 0 0, .slice none 0 0, .slice none 0 0] := rfl

theorem zero_ones : ∀ v ∈ (#[.int .i64 0, .int .i64 0, .int .i64 0, .int .i64 0, .int .i64 0, .int .i64 0, .int .i64 0, .int .i64 0, .string ⟨#[]⟩, .int .i64 0, .int .u32 0, .slice none 0 0, .int .i64 0, .slice none 0 0, .slice none 0 0, .int .i64 0, .slice none 0 0, .slice none 0 0, .slice none 0 0] : Array Value).toList, v.oneCell' = true := by decide

theorem cells_ones (r : Rm) : ∀ v ∈ r.cells.toList, v.oneCell' = true := by
  intro v hv
  simp [Rm.cells] at hv
  rcases hv with rfl | rfl | rfl | rfl | rfl | rfl | rfl | rfl | rfl | rfl | rfl | rfl | rfl | rfl | rfl | rfl | rfl | rfl | rfl <;> rfl

/-- Decode's answer. -/
def RetDm (w : World) (ps : List Nat) (e : Ending) (w' : World) : Prop :=
  (okMg ps = false ∧ e = .returned (.tuple #[.agg #[.int .i64 0, .int .i64 0, .int .i64 0, .int .i64 0, .int .i64 0, .int .i64 0, .int .i64 0, .int .i64 0, .string ⟨#[]⟩, .int .i64 0, .int .u32 0, .slice none 0 0, .int .i64 0, .slice none 0 0, .slice none 0 0, .int .i64 0, .slice none 0 0, .slice none 0 0, .slice none 0 0], .int .i64 2]) ∧ Below w.heap.size w w') ∨
  (okMg ps = true ∧ ∃ r : Rm, r.m = decMg ps ∧ e = .returned (.tuple #[.agg r.cells, .int .i64 0]) ∧ Kept w.heap.size w' (fun w2 => MsgAt w2 r) ∧ Below w.heap.size w w')


set_option maxRecDepth 100000 in
set_option maxHeartbeats 4000000 in
theorem decMg_any (a : Option Addr) (cap l : Nat) (ps : List Nat) (w : World) (hl : ps.length = l) (hm : l ≤ 100000000) (h : SeenAt w a cap ps) :
    Calls Tryz.prog 31 #[.slice a l cap] w (RetDm w ps) := by
  have HB0 : Hid (Below w.heap.size w (w.alloc (.cells #[.int .i64 0, .int .i64 0, .int .i64 0, .int .i64 0, .int .i64 0, .int .i64 0, .int .i64 0, .int .i64 0, .string ⟨#[]⟩, .int .i64 0, .int .u32 0, .slice none 0 0, .int .i64 0, .slice none 0 0, .slice none 0 0, .int .i64 0, .slice none 0 0, .slice none 0 0, .slice none 0 0] 40))) := below_one w _
  have HZ0 := Lib.hid (bx_new w #[.int .i64 0, .int .i64 0, .int .i64 0, .int .i64 0, .int .i64 0, .int .i64 0, .int .i64 0, .int .i64 0, .string ⟨#[]⟩, .int .i64 0, .int .u32 0, .slice none 0 0, .int .i64 0, .slice none 0 0, .slice none 0 0, .int .i64 0, .slice none 0 0, .slice none 0 0, .slice none 0 0] 40)
  have HS0 := Lib.hid (h.below HB0.out)
  have HW0 : Hid (w.heap.size < (w.alloc (.cells #[.int .i64 0, .int .i64 0, .int .i64 0, .int .i64 0, .int .i64 0, .int .i64 0, .int .i64 0, .int .i64 0, .string ⟨#[]⟩, .int .i64 0, .int .u32 0, .slice none 0 0, .int .i64 0, .slice none 0 0, .slice none 0 0, .int .i64 0, .slice none 0 0, .slice none 0 0, .slice none 0 0] 40)).heap.size) := by show _ < _; simp
  have HL := Lib.hid hl
  clear h hl
  cases hin : inB ps
  · have HNO : Hid (okMg ps = false) := by show _ = _; rw [okMg_in, hin, Bool.false_and, Bool.false_and]
    have HIN := Lib.hid hin
    clear hin
    go_enter Tryz.func31, Tryz.ntmps31
    go_wp2_with fail
    generalize w.alloc (.cells #[.int .i64 0, .int .i64 0, .int .i64 0, .int .i64 0, .int .i64 0, .int .i64 0, .int .i64 0, .int .i64 0, .string ⟨#[]⟩, .int .i64 0, .int .u32 0, .slice none 0 0, .int .i64 0, .slice none 0 0, .slice none 0 0, .int .i64 0, .slice none 0 0, .slice none 0 0, .slice none 0 0] 40) = w0 at *
    refine (inside_no _ _ _ ps _ HL.out (by omega) HS0.out HIN.out).mono ?_
    rintro e w1 ⟨rfl, hb1⟩
    have HZ1 := Lib.hid (HZ0.out.chg (gs := []) (Chg.of_below hb1) (by simp))
    have HB1 := Lib.hid (HB0.out.trans (hb1.mono HB0.out.size))
    clear hb1 HZ0 HB0 HS0
    go_wp2_with (refine wpList_st 40 19 w.heap.size 0 40 #[.int .i64 0, .int .i64 0, .int .i64 0, .int .i64 0, .int .i64 0, .int .i64 0, .int .i64 0, .int .i64 0, .string ⟨#[]⟩, .int .i64 0, .int .u32 0, .slice none 0 0, .int .i64 0, .slice none 0 0, .slice none 0 0, .int .i64 0, .slice none 0 0, .slice none 0 0, .slice none 0 0] #[.int .i64 0, .int .i64 0, .int .i64 0, .int .i64 0, .int .i64 0, .int .i64 0, .int .i64 0, .int .i64 0, .string ⟨#[]⟩, .int .i64 0, .int .u32 0, .slice none 0 0, .int .i64 0, .slice none 0 0, .slice none 0 0, .int .i64 0, .slice none 0 0, .slice none 0 0, .slice none 0 0] #[.int .i64 0, .int .i64 0, .int .i64 0, .int .i64 0, .int .i64 0, .int .i64 0, .int .i64 0, .int .i64 0, .string ⟨#[]⟩, .int .i64 0, .int .u32 0, .slice none 0 0, .int .i64 0, .slice none 0 0, .slice none 0 0, .int .i64 0, .slice none 0 0, .slice none 0 0, .slice none 0 0] _ _ rfl rfl rfl rfl rfl (by kernel_rfl) rfl HZ1.out (by simp) zero_ones rfl ?_; intro wf hx hc)
    have HF : Hid (RetDm w ps (.returned (.tuple #[.agg #[.int .i64 0, .int .i64 0, .int .i64 0, .int .i64 0, .int .i64 0, .int .i64 0, .int .i64 0, .int .i64 0, .string ⟨#[]⟩, .int .i64 0, .int .u32 0, .slice none 0 0, .int .i64 0, .slice none 0 0, .slice none 0 0, .int .i64 0, .slice none 0 0, .slice none 0 0, .slice none 0 0], .int .i64 2])) wf) := .inl ⟨HNO.out, rfl, hc.below HB1.out HB1.out.size (by simp)⟩
    have hld := run_ldvM w.heap.size _ rfl hx.box
    refine bodyPost_ret (v := .tuple #[.agg #[.int .i64 0, .int .i64 0, .int .i64 0, .int .i64 0, .int .i64 0, .int .i64 0, .int .i64 0, .int .i64 0, .string ⟨#[]⟩, .int .i64 0, .int .u32 0, .slice none 0 0, .int .i64 0, .slice none 0 0, .slice none 0 0, .int .i64 0, .slice none 0 0, .slice none 0 0, .slice none 0 0], .int .i64 2]) (results_cell2 Tryz.results31 rfl rfl hld) rfl ?_
    exact HF.out
  · have HOK : Hid (okMg ps = (Pk.fin (rdTM (inM ps)).2 && sndMg (ofTup (rdTM (inM ps)).1))) := by show _ = _; rw [okMg_in, hin, fin_dec, Bool.true_and]
    have HIN := Lib.hid hin
    clear hin
    go_enter Tryz.func31, Tryz.ntmps31
    go_wp2_with fail
    generalize w.alloc (.cells #[.int .i64 0, .int .i64 0, .int .i64 0, .int .i64 0, .int .i64 0, .int .i64 0, .int .i64 0, .int .i64 0, .string ⟨#[]⟩, .int .i64 0, .int .u32 0, .slice none 0 0, .int .i64 0, .slice none 0 0, .slice none 0 0, .int .i64 0, .slice none 0 0, .slice none 0 0, .slice none 0 0] 40) = w0 at *
    refine (inside_yes _ _ _ ps _ HL.out (by omega) HS0.out HIN.out).mono ?_
    rintro e w1 ⟨x, c, rfl, hs1, hl1, hb1⟩
    have HZ1 := Lib.hid (HZ0.out.chg (gs := []) (Chg.of_below hb1) (by simp))
    have HB1 := Lib.hid (HB0.out.trans (hb1.mono HB0.out.size))
    have HW1 : Hid (w.heap.size < w1.heap.size) := Nat.lt_of_lt_of_le HW0.out hb1.size
    have HS1 := Lib.hid hs1
    have HL1 := Lib.hid hl1
    have HBY := Lib.hid hs1.byte
    clear hb1 HZ0 HB0 HS0 hs1 hl1
    obtain ⟨l5, hl5⟩ : ∃ q, l - 5 = q := ⟨_, rfl⟩
    have hl5' : l5 ≤ 100000000 := by omega
    rw [hl5] at HL1 ⊢
    clear hl5
    go_wp2_with fail
    refine (newH _ _ _ ((cutMg ps).drop 1) _ HL1.out (by omega) HS1.out).mono ?_
    rintro e w2 ⟨R, H, rfl, hR, hr2, hb2⟩
    have HZ2 := Lib.hid (HZ1.out.chg (gs := []) (Chg.of_below hb2) (by simp))
    have HB2 := Lib.hid (HB1.out.trans (hb2.mono HB1.out.size))
    have HW2 : Hid (w.heap.size < w2.heap.size) := Nat.lt_of_lt_of_le HW1.out hb2.size
    have hRw : w.heap.size < R := Nat.lt_of_lt_of_le HW1.out hR
    have HR2 := Lib.hid hr2
    clear hb2 hr2 HZ1 HB1 HS1 hR
    have K0 : Gf.Bytes (inM ps).1 ∧ (inM ps).1.length ≤ 100000000 := ⟨HBY.out, by show ((cutMg ps).drop 1).length ≤ _; rw [HL1.out]; exact hl5'⟩
    go_wp2_with fail
    refine (readMessage_any R (inM ps) _ HR2.out K0).mono ?_
    rintro e w3 ⟨r, hrm, rfl, hk3, hr3, hb3⟩
    rw [← hrm] at HOK
    have HRM : Hid (r.m = decMg ps) := hrm
    clear hrm K0
    have HK3 := Lib.hid hk3
    have HR3 := Lib.hid hr3
    have HZ3 := Lib.hid (HZ2.out.chg hb3 (by simp; omega))
    have HB3 := Lib.hid (hb3.below HB2.out HB2.out.size (by simp; omega))
    have HW3 : Hid (w.heap.size < w3.heap.size) := Nat.lt_of_lt_of_le HW2.out hb3.size
    clear hk3 hr3 hb3 HR2 HZ2
    generalize (rdTM (inM ps)).2 = s3 at *
    go_wp2_with (refine wpList_st 40 19 w3.heap.size 0 40 r.cells #[.int .i64 0, .int .i64 0, .int .i64 0, .int .i64 0, .int .i64 0, .int .i64 0, .int .i64 0, .int .i64 0, .string ⟨#[]⟩, .int .i64 0, .int .u32 0, .slice none 0 0, .int .i64 0, .slice none 0 0, .slice none 0 0, .int .i64 0, .slice none 0 0, .slice none 0 0, .slice none 0 0] r.cells _ _ rfl rfl rfl rfl rfl (by kernel_rfl) rfl (bx_new w3 #[.int .i64 0, .int .i64 0, .int .i64 0, .int .i64 0, .int .i64 0, .int .i64 0, .int .i64 0, .int .i64 0, .string ⟨#[]⟩, .int .i64 0, .int .u32 0, .slice none 0 0, .int .i64 0, .slice none 0 0, .slice none 0 0, .int .i64 0, .slice none 0 0, .slice none 0 0, .slice none 0 0] 40) (by simp) (cells_ones r) rfl ?_; intro w4 hx4 hc4; have hb4 : Below w3.heap.size w3 w4 := hc4.below (below_one w3 _) (by simp) (by simp); have HR4 := Lib.hid (HR3.out.below hb4); have HZ4 := Lib.hid (HZ3.out.chg (gs := []) (Chg.of_below hb4) (by simp)); have HB4 := Lib.hid (HB3.out.trans (hb4.mono HB3.out.size)); have HK4 := Lib.hid (HK3.out.step (hs := []) (Chg.of_below hb4) (by simp)); have HX4 := Lib.hid hx4; clear hx4 hc4 hb4 HR3 HZ3 HB3 HK3)
    refine (rEndH R s3 _ HR4.out).mono ?_
    rintro e w' ⟨rfl, rfl⟩
    cases hf : Pk.fin s3
    · have HNO : Hid (okMg ps = false) := by show _ = _; rw [HOK.out, hf, Bool.false_and]
      go_wp2_with (refine wpList_st 40 19 w.heap.size 0 40 #[.int .i64 0, .int .i64 0, .int .i64 0, .int .i64 0, .int .i64 0, .int .i64 0, .int .i64 0, .int .i64 0, .string ⟨#[]⟩, .int .i64 0, .int .u32 0, .slice none 0 0, .int .i64 0, .slice none 0 0, .slice none 0 0, .int .i64 0, .slice none 0 0, .slice none 0 0, .slice none 0 0] #[.int .i64 0, .int .i64 0, .int .i64 0, .int .i64 0, .int .i64 0, .int .i64 0, .int .i64 0, .int .i64 0, .string ⟨#[]⟩, .int .i64 0, .int .u32 0, .slice none 0 0, .int .i64 0, .slice none 0 0, .slice none 0 0, .int .i64 0, .slice none 0 0, .slice none 0 0, .slice none 0 0] #[.int .i64 0, .int .i64 0, .int .i64 0, .int .i64 0, .int .i64 0, .int .i64 0, .int .i64 0, .int .i64 0, .string ⟨#[]⟩, .int .i64 0, .int .u32 0, .slice none 0 0, .int .i64 0, .slice none 0 0, .slice none 0 0, .int .i64 0, .slice none 0 0, .slice none 0 0, .slice none 0 0] _ _ rfl rfl rfl rfl rfl (by kernel_rfl) rfl HZ4.out (by simp) zero_ones rfl ?_; intro wf hx hc)
      have HF : Hid (RetDm w ps (.returned (.tuple #[.agg #[.int .i64 0, .int .i64 0, .int .i64 0, .int .i64 0, .int .i64 0, .int .i64 0, .int .i64 0, .int .i64 0, .string ⟨#[]⟩, .int .i64 0, .int .u32 0, .slice none 0 0, .int .i64 0, .slice none 0 0, .slice none 0 0, .int .i64 0, .slice none 0 0, .slice none 0 0, .slice none 0 0], .int .i64 2])) wf) := .inl ⟨HNO.out, rfl, hc.below HB4.out HB4.out.size (by simp)⟩
      have hld := run_ldvM w.heap.size _ rfl hx.box
      refine bodyPost_ret (v := .tuple #[.agg #[.int .i64 0, .int .i64 0, .int .i64 0, .int .i64 0, .int .i64 0, .int .i64 0, .int .i64 0, .int .i64 0, .string ⟨#[]⟩, .int .i64 0, .int .u32 0, .slice none 0 0, .int .i64 0, .slice none 0 0, .slice none 0 0, .int .i64 0, .slice none 0 0, .slice none 0 0, .slice none 0 0], .int .i64 2]) (results_cell2 Tryz.results31 rfl rfl hld) rfl ?_
      exact HF.out
    · go_wp2_with (first | refine wpList_ldM _ _ _ rfl rfl rfl rfl HX4.out.box ?_ | (refine wpList_ung (by rfl) ?_; refine wpList_ldM _ _ _ rfl rfl rfl rfl HX4.out.box ?_))
      refine (msgSound_any r _ HK4.out.now).mono ?_
      rintro e w5 ⟨rfl, hb5⟩
      have HX5 := Lib.hid (HX4.out.chg (gs := []) (Chg.of_below hb5) (by simp))
      have HZ5 := Lib.hid (HZ4.out.chg (gs := []) (Chg.of_below hb5) (by simp))
      have HB5 := Lib.hid (HB4.out.trans (hb5.mono HB4.out.size))
      have HK5 := Lib.hid (HK4.out.step (hs := []) (Chg.of_below hb5) (by simp))
      clear hb5 HX4 HZ4 HB4 HK4 HR4
      cases hs : sndMg r.m
      · have HNO : Hid (okMg ps = false) := by show _ = _; rw [HOK.out, hf, hs, Bool.true_and]
        go_wp2_with (refine wpList_st 40 19 w.heap.size 0 40 #[.int .i64 0, .int .i64 0, .int .i64 0, .int .i64 0, .int .i64 0, .int .i64 0, .int .i64 0, .int .i64 0, .string ⟨#[]⟩, .int .i64 0, .int .u32 0, .slice none 0 0, .int .i64 0, .slice none 0 0, .slice none 0 0, .int .i64 0, .slice none 0 0, .slice none 0 0, .slice none 0 0] #[.int .i64 0, .int .i64 0, .int .i64 0, .int .i64 0, .int .i64 0, .int .i64 0, .int .i64 0, .int .i64 0, .string ⟨#[]⟩, .int .i64 0, .int .u32 0, .slice none 0 0, .int .i64 0, .slice none 0 0, .slice none 0 0, .int .i64 0, .slice none 0 0, .slice none 0 0, .slice none 0 0] #[.int .i64 0, .int .i64 0, .int .i64 0, .int .i64 0, .int .i64 0, .int .i64 0, .int .i64 0, .int .i64 0, .string ⟨#[]⟩, .int .i64 0, .int .u32 0, .slice none 0 0, .int .i64 0, .slice none 0 0, .slice none 0 0, .int .i64 0, .slice none 0 0, .slice none 0 0, .slice none 0 0] _ _ rfl rfl rfl rfl rfl (by kernel_rfl) rfl HZ5.out (by simp) zero_ones rfl ?_; intro wf hx hc)
        have HF : Hid (RetDm w ps (.returned (.tuple #[.agg #[.int .i64 0, .int .i64 0, .int .i64 0, .int .i64 0, .int .i64 0, .int .i64 0, .int .i64 0, .int .i64 0, .string ⟨#[]⟩, .int .i64 0, .int .u32 0, .slice none 0 0, .int .i64 0, .slice none 0 0, .slice none 0 0, .int .i64 0, .slice none 0 0, .slice none 0 0, .slice none 0 0], .int .i64 2])) wf) := .inl ⟨HNO.out, rfl, hc.below HB5.out HB5.out.size (by simp)⟩
        have hld := run_ldvM w.heap.size _ rfl hx.box
        refine bodyPost_ret (v := .tuple #[.agg #[.int .i64 0, .int .i64 0, .int .i64 0, .int .i64 0, .int .i64 0, .int .i64 0, .int .i64 0, .int .i64 0, .string ⟨#[]⟩, .int .i64 0, .int .u32 0, .slice none 0 0, .int .i64 0, .slice none 0 0, .slice none 0 0, .int .i64 0, .slice none 0 0, .slice none 0 0, .slice none 0 0], .int .i64 2]) (results_cell2 Tryz.results31 rfl rfl hld) rfl ?_
        exact HF.out
      · have HYE : Hid (okMg ps = true) := by show _ = _; rw [HOK.out, hf, hs, Bool.true_and]
        go_wp2_with (first | refine wpList_ldM _ _ _ rfl rfl rfl rfl HX5.out.box ?_ | (refine wpList_st 40 19 w.heap.size 0 40 r.cells #[.int .i64 0, .int .i64 0, .int .i64 0, .int .i64 0, .int .i64 0, .int .i64 0, .int .i64 0, .int .i64 0, .string ⟨#[]⟩, .int .i64 0, .int .u32 0, .slice none 0 0, .int .i64 0, .slice none 0 0, .slice none 0 0, .int .i64 0, .slice none 0 0, .slice none 0 0, .slice none 0 0] r.cells _ _ rfl rfl rfl rfl rfl (by kernel_rfl) rfl HZ5.out (by simp) (cells_ones r) rfl ?_; intro wf hx hc))
        have HF : Hid (RetDm w ps (.returned (.tuple #[.agg r.cells, .int .i64 0])) wf) := .inr ⟨HYE.out, r, HRM.out, rfl, (HK5.out.step hc (by simp; exact HW2.out)).low (Nat.le_of_lt HW2.out), hc.below HB5.out HB5.out.size (by simp)⟩
        have hld := run_ldvM w.heap.size _ rfl hx.box
        refine bodyPost_ret (v := .tuple #[.agg r.cells, .int .i64 0]) (results_cell2 Tryz.results31 rfl rfl hld) rfl ?_
        exact HF.out

theorem decMg_no (a : Option Addr) (cap l : Nat) (ps : List Nat) (w : World) (hl : ps.length = l) (hm : l ≤ 100000000) (h : SeenAt w a cap ps) (hno : okMg ps = false) :
    Calls Tryz.prog 31 #[.slice a l cap] w fun e w' => e = .returned (.tuple #[.agg #[.int .i64 0, .int .i64 0, .int .i64 0, .int .i64 0, .int .i64 0, .int .i64 0, .int .i64 0, .int .i64 0, .string ⟨#[]⟩, .int .i64 0, .int .u32 0, .slice none 0 0, .int .i64 0, .slice none 0 0, .slice none 0 0, .int .i64 0, .slice none 0 0, .slice none 0 0, .slice none 0 0], .int .i64 2]) ∧ Below w.heap.size w w' :=
  (decMg_any a cap l ps w hl hm h).mono fun e w' hx => by
    rcases hx with ⟨_, h1⟩ | ⟨h2, _⟩
    · exact h1
    · rw [hno] at h2; cases h2

theorem decMg_yes (a : Option Addr) (cap l : Nat) (ps : List Nat) (w : World) (hl : ps.length = l) (hm : l ≤ 100000000) (h : SeenAt w a cap ps) (hyes : okMg ps = true) :
    Calls Tryz.prog 31 #[.slice a l cap] w fun e w' => ∃ r : Rm, r.m = decMg ps ∧ e = .returned (.tuple #[.agg r.cells, .int .i64 0]) ∧ Kept w.heap.size w' (fun w2 => MsgAt w2 r) ∧ Below w.heap.size w w' :=
  (decMg_any a cap l ps w hl hm h).mono fun e w' hx => by
    rcases hx with ⟨h1, _⟩ | ⟨_, h2⟩
    · rw [hyes] at h1; cases h1
    · exact h2

end Go.Proofs.YtggjpjpemgpeeaaGreat
