/-
  Layer 3: rs.codeMatrix, rs.combined.
-/
import Derived.Test.YtnhledngeicekaaWalksS2
namespace Go.Proofs.Ytnhledngeicekaa
open Go.RowKit

/-- Rows of powers of unlike numbers don't hang together. -/
theorem van_ok (k : Nat) (hk : k ≤ 256) : ¬ Mt.Sing k (vanK k k) := by
  rintro ⟨x, hx, ⟨j, hj, hn⟩, h⟩
  have hz := Mt.roots (List.range k) ((List.range k).map x) (fun c hc => by obtain ⟨j, _, rfl⟩ := List.mem_map.mp hc; exact hx j) (fun q hq => by have := List.mem_range.mp hq; omega) List.nodup_range (by simp) fun q hq => by
    have hq' := List.mem_range.mp hq
    rw [Mt.eval_xs k q x hx (by omega)]
    have hd := h q hq'
    rw [vanK_row k k q hq'] at hd
    rw [← hd]
    apply Mt.xs_congr
    intro l hl'
    rw [pows_get q k l hl', Gf.gm_comm _ _ (hx l) (Gf.ipow_lt q l)]
  exact hn (hz (x j) (List.mem_map.mpr ⟨j, by simpa using hj, rfl⟩))

/-- A code matrix is handed back. -/
def CodePost (w : World) (k n : Nat) (e : Ending) (w' : World) : Prop := ∃ C, CodeOK k n C ∧ RetM w n C e w'

set_option maxRecDepth 100000 in
set_option maxHeartbeats 2000000 in
theorem codeMatrix_any (k m n : Nat) (w : World) (hk : 1 ≤ k) (hn : k + m = n) (hn2 : n ≤ 255) :
    Calls Try.prog 25 #[.int .i64 (k : Int), .int .i64 (m : Int)] w (CodePost w k n) := by
  have HZ : Hid ((k : Int) + (m : Int) = (n : Int)) := by show _ = _; omega
  have hkn : k ≤ n := by omega
  have hm2 : m ≤ 255 := by omega
  have HH := Lib.hid hn
  clear hn
  go_enter Try.func25, Try.ntmps25
  go_wp2_with fail
  rw [HZ.out]
  refine (vander_any n k _ (by omega) (by omega) (by omega) (by omega)).mono ?_
  rintro e w1 ⟨_, G, C, g, c, rfl, hO, hb⟩
  have hC1 := hO.cap_le.1
  have hC2 := hO.cap_le.2
  rw [vanK_len] at hC1
  unfold maxLen at hC2
  have HO := Lib.hid hO
  have HB := Lib.hid hb
  clear hO hb
  go_wp2_with fail
  refine (inverse_any _ _ k (vanK k k) _ (by rw [← van_take k n hkn]; exact HO.out.gridAt.take k) (van_sd k k (by omega) (by omega)) (vanK_len k k) (by rw [vanK_row k k 0 (by omega), pows_len]) (by omega)).mono ?_
  rintro e w2 ⟨hb2, ⟨GX, CX, gx, cx, X, rfl, hX, sX, iX⟩ | ⟨rfl, hS⟩⟩
  · have HX := Lib.hid hX
    have HSX := Lib.hid sX
    have HIX := Lib.hid iX
    have HO2 := Lib.hid (HO.out.gridAt.below hb2)
    have HB2 := Lib.hid (HB.out.trans (hb2.mono HB.out.size))
    clear hX sX iX hb2
    go_wp2_with fail
    refine (matMul_at _ _ _ _ n k (vanK k n) X _ HO2.out HX.out.gridAt (van_sd k n (by omega) (by omega)) (Sd.of_sq HSX.out (by omega)) (by rw [vanK_row k n 0 (by omega), pows_len, HSX.out.len]) (by rw [vanK_len]; omega) (by rw [HSX.out.row 0 (by omega)]; omega) (vanK_len k n) HSX.out.len).mono ?_
    rintro e w3 ⟨hyl, GY, CY, gy, cy, rfl, hY, hb3⟩
    have HY := Lib.hid (hY.base HB2.out.size)
    have HB3 := Lib.hid (HB2.out.trans (hb3.mono HB2.out.size))
    have HYL := Lib.hid hyl
    clear hY hb3 hyl
    go_wp2
    go_ret
    exact ⟨_, code_ok k n X (by omega) hkn (by omega) HSX.out HIX.out, HYL.out, _, _, _, _, rfl, HY.out, HB3.out⟩
  · exact absurd hS (van_ok k (by omega))

/-- Sums of empty parts are empty. -/
theorem mprod_nil (a b : List (List Nat)) (h : (b.getD 0 []).length = 0) : mprod a b = List.replicate a.length [] := by
  refine getD_congr _ _ [] (by rw [mprod_len, List.length_replicate]) fun i hi => ?_
  rw [mprod_len] at hi
  have := mprod_row a b i hi
  rw [h] at this
  rw [getD_rep _ _ _ _ hi]
  exact List.eq_nil_of_length_eq_zero this

theorem grid_made (w : World) (n : Nat) (hn : n ≤ maxLen) : GridAt (w.alloc (.cells (madeCells #[.slice none 0 0] n) 28)) (some ⟨w.heap.size, 0, none⟩) n (List.replicate n []) := by
  have h := (oldG_made w w n (Nat.le_refl _) hn).grid (below_one _ _)
  have e : dats (List.replicate n fr0) = List.replicate n [] := by simp [dats, fr0]
  rw [e] at h
  exact h

theorem sd_ev {b : List (List Nat)} (h0 : 0 < b.length) (h1 : 0 < (b.getD 0 []).length) (e : Ev b) : Sd b := ⟨h0, h1, e⟩

set_option maxRecDepth 100000 in
set_option maxHeartbeats 2000000 in
theorem combined_any (va vb : Option Addr) (vc vd la lb : Nat) (a b : List (List Nat)) (w : World) (hA : GridAt w va vc a) (hB : GridAt w vb vd b) (hla : a.length = la) (hlb : b.length = lb) (hl0 : la ≤ 1000000) (h0 : 0 < lb) (sa : Sd a) (hf : (a.getD 0 []).length = lb) (eb : Ev b)
    (hk : (b.getD 0 []).length ≤ 1000000000) :
    Calls Try.prog 28 #[.slice va la vc, .slice vb lb vd] w (RetG w la (mprod a b)) := by
  obtain ⟨b2, off2, ra2, rc2, e2, hcb, _⟩ := hB.at 0 (by omega)
  rw [Nat.add_zero] at hcb
  subst e2
  have h0' : (0 : Int) < (lb : Int) := by omega
  by_cases hz : (b.getD 0 []).length = 0
  · have HM := Lib.hid (mprod_nil a b hz)
    rw [hz] at hcb
    rw [HM.out, hla]
    have hmk := run_make_row' (P := Try.prog) 22 28 (.slice none 0 0) 24 Try.underlying22 infoR rfl .i64 .i64 la (by omega) (by omega)
    clear hA hB hla hlb sa hf eb hz HM hk
    go_enter Try.func28, Try.ntmps28
    go_wp2
    go_ret
    exact ⟨by simp, _, _, rfl, grid_made w la (by unfold maxLen; omega), below_one _ _⟩
  · have HA := Lib.hid hA
    have HB := Lib.hid hB
    have HC := Lib.hid (fun w' => fun (h1 : GridAt w' va vc a) => fun (h2 : GridAt w' (some ⟨b2, off2, none⟩) vd b) => matMul_at va (some ⟨b2, off2, none⟩) vc vd la lb a b w' h1 h2 sa (sd_ev (by omega) (by omega) eb) (by rw [hf, hlb]) (by omega) hk hla hlb)
    have hz1 : ((((b.getD 0 []).length : Nat) : Int) == 0) = false := by simpa using hz
    have hz0 : 0 < (b.getD 0 []).length := by omega
    clear hA hB hla hlb sa hf eb hz hk
    generalize (b.getD 0 []).length = q at *
    go_enter Try.func28, Try.ntmps28
    go_wp2_with fail
    refine (HC.out _ HA.out HB.out).mono ?_
    rintro e w3 ⟨hyl, GY, CY, gy, cy, rfl, hY, hb3⟩
    have HY := Lib.hid hY.gridAt
    have HYL := Lib.hid hyl
    clear hY hyl
    go_wp2
    go_ret
    exact ⟨HYL.out, _, _, rfl, HY.out, hb3⟩

end Go.Proofs.Ytnhledngeicekaa
