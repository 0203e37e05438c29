/-
  The fixed fact of layer 10.
-/
import Derived.Test.YtdifnipjmnbojaaWalksL1
namespace Go.Proofs.Ytdifnipjmnbojaa
open Go.RowKit

def awk : List Pe := [⟨1, 0, 1, 1, [97], 0, 0, []⟩, ⟨2, 1, 4, 1, [98], 0, 0, []⟩, ⟨3, 0, 2, 2, [98], 0, 0, []⟩]

def awkC : Array Value := #[.int .i64 1, .int .i64 0, .int .i64 1, .int .i64 1, .string ⟨#[97]⟩, .int .i64 0, .int .u32 0, .slice none 0 0,
  .int .i64 2, .int .i64 1, .int .i64 4, .int .i64 1, .string ⟨#[98]⟩, .int .i64 0, .int .u32 0, .slice none 0 0,
  .int .i64 3, .int .i64 0, .int .i64 2, .int .i64 2, .string ⟨#[98]⟩, .int .i64 0, .int .u32 0, .slice none 0 0]

theorem awk_at (w : World) : EnsAt (w.alloc (.cells awkC 26)) (some ⟨w.heap.size, 0, none⟩) 3 awk := by
  have hc : ∀ k, (w.alloc (.cells awkC 26)).cell? ⟨w.heap.size, k, none⟩ = awkC[k]? := fun k => by rw [World.cell?_alloc_mark]
  have s97 : strB [97] = ⟨#[97]⟩ := by decide
  have s98 : strB [98] = ⟨#[98]⟩ := by decide
  refine ⟨by simp [awk], by unfold maxLen; omega, fun i hi => ?_, fun e he => ?_⟩
  · have hi3 : i < 3 := by simpa [awk] using hi
    match i, hi3 with
    | 0, _ => exact ⟨_, 0, none, 0, rfl, by rw [hc]; rfl, by rw [hc]; rfl, by rw [hc]; rfl, by rw [hc]; rfl, by rw [hc]; show _ = some (Value.string (strB [97])); rw [s97]; rfl, by rw [hc]; rfl, by rw [hc]; rfl, by rw [hc]; rfl, SeenAt.nil (Nat.zero_le _)⟩
    | 1, _ => exact ⟨_, 0, none, 0, rfl, by rw [hc]; rfl, by rw [hc]; rfl, by rw [hc]; rfl, by rw [hc]; rfl, by rw [hc]; show _ = some (Value.string (strB [98])); rw [s98]; rfl, by rw [hc]; rfl, by rw [hc]; rfl, by rw [hc]; rfl, SeenAt.nil (Nat.zero_le _)⟩
    | 2, _ => exact ⟨_, 0, none, 0, rfl, by rw [hc]; rfl, by rw [hc]; rfl, by rw [hc]; rfl, by rw [hc]; rfl, by rw [hc]; show _ = some (Value.string (strB [98])); rw [s98]; rfl, by rw [hc]; rfl, by rw [hc]; rfl, by rw [hc]; rfl, SeenAt.nil (Nat.zero_le _)⟩
  · simp only [awk, List.mem_cons, List.not_mem_nil, or_false] at he
    rcases he with rfl | rfl | rfl <;> exact ⟨by constructor <;> decide, by constructor <;> decide, by constructor <;> decide, by constructor <;> decide, by constructor <;> decide, by decide, by intro c hc; simp at hc; omega, by intro c hc; simp at hc⟩

theorem awk_names : NamesOf (curU awk 9 3) [[97]] := by
  refine ⟨by simp, by simp, fun x => ?_⟩
  simp only [curU_step, curU_zero]
  have k0 : kb (awk.getD 0 pe0) = [97] := by decide
  have k1 : kb (awk.getD 1 pe0) = [98] := by decide
  have k2 : kb (awk.getD 2 pe0) = [98] := by decide
  rw [k0, k1, k2]
  have o0 : (awk.getD 0 pe0).op = 1 := rfl
  have o1 : (awk.getD 1 pe0).op = 1 := rfl
  have o2 : (awk.getD 2 pe0).op = 2 := rfl
  have q0 : (awk.getD 0 pe0).seq = 1 := rfl
  have q1 : (awk.getD 1 pe0).seq = 2 := rfl
  have q2 : (awk.getD 2 pe0).seq = 3 := rfl
  rw [o0, o1, o2, q0, q1, q2]
  by_cases h7 : x = [97]
  · subst h7; simp
  · by_cases h8 : x = [98]
    · subst h8; simp
    · have h7' : ¬ [97] = x := fun e => h7 e.symm
      have h8' : ¬ [98] = x := fun e => h8 e.symm
      simp [h7, h7', h8']

theorem lit_a (w : World) : StrsAt (w.alloc (.cells #[.string ⟨#[97]⟩] 9)) (some ⟨w.heap.size, 0, none⟩) 1 [[97]] :=
  ⟨by simp, by unfold maxLen; omega, fun i hi => by
    have : i = 0 := by simpa using hi
    subst this
    exact ⟨_, 0, rfl, by rw [World.cell?_alloc_mark]; rfl⟩⟩

set_option maxRecDepth 100000 in
set_option maxHeartbeats 1000000 in
theorem awake10 (w : World) :
    Calls Try.prog 10 #[] w fun e w' => e = .returned (.bool true) ∧ Below w.heap.size w w' := by
  have HA0 : Hid (EnsAt (w.alloc (.cells awkC 26)) (some ⟨w.heap.size, 0, none⟩) 3 awk) := awk_at w
  have HB0 : Hid (Below w.heap.size w (w.alloc (.cells awkC 26))) := below_one _ _
  have F1 : Hid (ansF awk (fndU awk 2 (⟨#[98]⟩ : ByteArray).data.toList 3) = (⟨2, 1, 4, 1, [98], 0, 0, []⟩, true)) := by show _ = _; kernel_rfl
  have N1 : Hid (numU awk 0 3 = (2, 3)) := by show _ = _; kernel_rfl
  have L1 : Hid ((liveU awk 9 3).length = 3) := by show _ = _; kernel_rfl
  have L2 : Hid ((liveU awk 2 3).length = 2) := by show _ = _; kernel_rfl
  have HK : Hid (∀ e ∈ awk, e.key.length ≤ 1000000000 ∧ e.frag.length ≤ 1000000000) := by
    intro e he
    simp only [awk, List.mem_cons, List.not_mem_nil, or_false] at he
    rcases he with rfl | rfl | rfl <;> simp
  unfold awkC at *
  go_enter Try.func10, Try.ntmps10
  go_wp2_with fail
  generalize w.alloc (.cells #[.int .i64 1, .int .i64 0, .int .i64 1, .int .i64 1, .string ⟨#[97]⟩, .int .i64 0, .int .u32 0, .slice none 0 0,
    .int .i64 2, .int .i64 1, .int .i64 4, .int .i64 1, .string ⟨#[98]⟩, .int .i64 0, .int .u32 0, .slice none 0 0,
    .int .i64 3, .int .i64 0, .int .i64 2, .int .i64 2, .string ⟨#[98]⟩, .int .i64 0, .int .u32 0, .slice none 0 0] 26) = w0 at *
  refine (find_any (some ⟨w.heap.size, 0, none⟩) 3 3 awk ⟨#[98]⟩ 2 w0 rfl HA0.out (fun e he => (HK.out e he).2) (by omega)).mono ?_
  intro e w1 h1
  have h1' := h1.one
  rw [F1.out] at h1'
  obtain ⟨loc, c, rfl, _, hb1⟩ := h1'
  have HA1 := Lib.hid (HA0.out.below hb1)
  have HB1 := Lib.hid (HB0.out.trans (hb1.mono HB0.out.size))
  clear h1 hb1 HA0 HB0
  dsimp only
  have hbx := below_one w1 (.cells #[.int .i64 2, .int .i64 1, .int .i64 4, .int .i64 1, .string (strB [98]), .int .i64 0, .int .u32 (((0 : Nat) : Int)), .slice loc ([] : List Nat).length c] 26)
  have HA2 := Lib.hid (HA1.out.below hbx)
  have HB2 := Lib.hid (HB1.out.trans (hbx.mono HB1.out.size))
  have k0 : (w1.alloc (.cells #[.int .i64 2, .int .i64 1, .int .i64 4, .int .i64 1, .string (strB [98]), .int .i64 0, .int .u32 (((0 : Nat) : Int)), .slice loc ([] : List Nat).length c] 26)).cell? ⟨w1.heap.size, 0, none⟩ = some (.int .i64 2) := by rw [World.cell?_alloc_mark]; rfl
  have K0 := Lib.hid k0
  clear hbx HA1 HB1 k0
  go_wp2_with fail
  generalize w1.alloc (.cells #[.int .i64 2, .int .i64 1, .int .i64 4, .int .i64 1, .string (strB [98]), .int .i64 0, .int .u32 (((0 : Nat) : Int)), .slice loc ([] : List Nat).length c] 26) = w2 at *
  refine (num_any (some ⟨w.heap.size, 0, none⟩) 3 3 awk 0 w2 rfl HA2.out).mono ?_
  rw [N1.out]
  rintro e w3 ⟨rfl, hb3⟩
  have HA3 := Lib.hid (HA2.out.below hb3)
  have HB3 := Lib.hid (HB2.out.trans (hb3.mono HB2.out.size))
  have k0 := cell_later hb3 K0.out
  have K3 := Lib.hid k0
  clear hb3 HA2 HB2 K0
  go_wp2_with fail
  refine (names_any (some ⟨w.heap.size, 0, none⟩) 3 3 awk 9 w3 rfl HA3.out (fun e he => (HK.out e he).1) (by omega)).mono ?_
  rintro e w4 ⟨a4, c4, ss, rfl, _, hn4, ho4, hb4⟩
  obtain rfl := hn4.one awk_names
  have HA4 := Lib.hid (HA3.out.below hb4)
  have HB4 := Lib.hid (HB3.out.trans (hb4.mono HB3.out.size))
  have HS4 := Lib.hid ((strs_own ho4 rfl).below (below_one w4 (.cells #[.string ⟨#[97]⟩] 9)))
  have HS5 := Lib.hid (lit_a w4)
  have HA5 := Lib.hid (HA4.out.below (below_one w4 (.cells #[.string ⟨#[97]⟩] 9)))
  have HB5 := Lib.hid (HB4.out.alloc HB4.out.size (.cells #[.string ⟨#[97]⟩] 9))
  clear hb4 ho4 hn4 HA3 HB3 K3 k0 HA4 HB4
  go_wp2_with fail
  generalize w4.alloc (.cells #[.string ⟨#[97]⟩] 9) = w5 at *
  refine (texts_any a4 (some ⟨w4.heap.size, 0, none⟩) c4 1 1 1 [[97]] [[97]] w5 rfl rfl HS4.out HS5.out).mono ?_
  rw [decide_eq_true rfl]
  rintro e w6 ⟨rfl, hb6⟩
  have HA6 := Lib.hid (HA5.out.below hb6)
  have HB6 := Lib.hid (HB5.out.trans (hb6.mono HB5.out.size))
  clear hb6 HA5 HB5 HS4 HS5
  go_wp2_with fail
  refine (live_any (some ⟨w.heap.size, 0, none⟩) 3 3 awk 9 w6 rfl HA6.out HK.out (by omega)).mono ?_
  rintro e w7 ⟨a7, c7, xs7, rfl, _, _, hb7⟩
  rw [L1.out]
  have HA7 := Lib.hid (HA6.out.below hb7)
  have HB7 := Lib.hid (HB6.out.trans (hb7.mono HB6.out.size))
  clear hb7 HA6 HB6
  go_wp2_with fail
  refine (live_any (some ⟨w.heap.size, 0, none⟩) 3 3 awk 2 w7 rfl HA7.out HK.out (by omega)).mono ?_
  rintro e w8 ⟨a8, c8, xs8, rfl, _, _, hb8⟩
  rw [L2.out]
  have HB8 := Lib.hid (HB7.out.trans (hb8.mono HB7.out.size))
  clear hb8 HA7 HB7
  go_wp2
  go_ret
  exact ⟨rfl, HB8.out⟩

end Go.Proofs.Ytdifnipjmnbojaa
