/-
  What mat's subtract does: a multiple of one row added to another, on both sides.
-/
import Derived.Test.YtnhledngeicekaaWalksM9
namespace Go.Proofs.Ytnhledngeicekaa
open Go.RowKit

set_option maxRecDepth 100000 in
set_option maxHeartbeats 4000000 in
theorem subtract_any (R tb lo mid n GL CL GR CR i r f : Nat) (L M : List (List Nat)) (w : World) (h : Red w R tb lo mid n GL CL GR CR L M) (hi : i < n) (hr : r < n) (hne : r ≠ i) (hf : f < 256) :
    Calls Try.prog 54 #[.pointer (some ⟨R, 0, none⟩), .int .i64 (i : Int), .int .i64 (r : Int), .int .u8 (f : Int)] w fun e w' => e = .returned (.tuple #[]) ∧
      Red w' R tb lo mid n GL CL GR CR (L.set i (Mt.addMul (L.getD i []) (L.getD r []) f)) (M.set i (Mt.addMul (M.getD i []) (M.getD r []) f)) ∧ Mid lo R w w' := by
  obtain ⟨gl, cl, gr, cr, hL, hM, hgl, hgr⟩ := h.own
  have HH := Lib.hid h
  have c0 := h.c0
  have c1 := h.c1
  have hi' : i < L.length := by rw [h.sL.len]; exact hi
  have hr' : r < L.length := by rw [h.sL.len]; exact hr
  have cLi := hL.cell i hi'
  have cLr := hL.cell r hr'
  rw [h.sL.row i hi] at cLi
  rw [h.sL.row r hr] at cLr
  have HO := Lib.hid (hL.row i hi')
  have HS := Lib.hid (hL.row r hr').seenAt
  have HLL := Lib.hid hL
  have HM := Lib.hid hM
  have HGL := Lib.hid hgl
  have HGR := Lib.hid hgr
  have HI := Lib.hid hi'
  have HLi := Lib.hid (h.sL.row i hi)
  have HLr := Lib.hid (h.sL.row r hr)
  have n1 : gl i ≠ GL := hL.ne i hi'
  have n2 : gl r ≠ gl i := fun e => hne (hL.inj r i hr' hi' e)
  have n3 : gl i < R := by have := hgl i hi; have := h.mR; omega
  have n4 : tb < gl i := by have := (hL.row i hi').lt.1; have := h.tlt; omega
  have HT := Lib.hid h.tab
  have K0 := Lib.hid c0
  have K1 := Lib.hid c1
  have K2 := Lib.hid cLi
  have K3 := Lib.hid cLr
  clear h hL hM hgl hgr hi' hr'
  have i0 : (0 : Int) ≤ (i : Int) := by omega
  have i1 : (i : Int) < (n : Int) := by omega
  have j0 : (0 : Int) ≤ (r : Int) := by omega
  have j1 : (r : Int) < (n : Int) := by omega
  go_enter Try.func54, Try.ntmps54
  go_upto_region 0 with fail
  go_cut [] (fun wx => Hid (OwnB wx lo (gl i) (cl i) (Mt.addMul (L.getD i []) (L.getD r []) f) ∧ Chg [gl i] w wx))
  case first =>
    go_region_held3 (fun w' => w'.cell? ⟨R, 0, none⟩ = some (.pointer (some ⟨tb, 0, none⟩)) ∧ w'.cell? ⟨R, 1, none⟩ = some (.slice (some ⟨GL, 0, none⟩) n CL) ∧ w'.cell? ⟨GL, i, none⟩ = some (.slice (some ⟨gl i, 0, none⟩) n (cl i)) ∧ w'.cell? ⟨GL, r, none⟩ = some (.slice (some ⟨gl r, 0, none⟩) n (cl r)))
      (first | go_keep | exact ⟨hC2.cell K0.out (by simp; omega), hC2.cell K1.out (by simp; omega), hC2.cell K2.out (by simp; omega), hC2.cell K3.out (by simp; omega)⟩)
      ((go_at_call 44; (with_reducible refine (addMul_at _ _ _ lo _ _ _ _ (L.getD i []) (L.getD r []) _ _ ?_ ?_ ?_ ?_ ?_ ?_ ?_ ?_ ?_).mono ?_); (exact HT.out.alike rfl); omega; (exact HO.out.alike rfl); (exact HS.out.alike rfl); (intro b off e; cases e; exact n2); (exact HLi.out); (exact HLr.out); omega; (exact hf); rintro e w5 ⟨rfl, hO2, hC2⟩))
    all_goals (go_wp2_with fail; go_meet; exact ⟨hO2, ((Chg.refl _ _).drew).trans hC2⟩)
  case rest =>
  have HC := hcut
  clear hcut c0 c1 cLi cLr HO HS K2 K3 HLi HLr
  generalize wc = w1 at *
  have hGLm := HH.out.hGL
  have hM1 : OwnM w1 mid GR CR gr cr M := HM.out.chg HC.out.2 (by have := HM.out.lt.1; have := HGL.out i hi; simp; omega) (fun k hk => by have := (HM.out.row k hk).lt.1; have := HGL.out i hi; simp; omega)
  have hi' : i < M.length := by rw [HH.out.sM.len]; exact hi
  have hr' : r < M.length := by rw [HH.out.sM.len]; exact hr
  have c0 := HC.out.2.cell K0.out (by simp; omega)
  have c2 := HC.out.2.cell HH.out.c2 (by simp; omega)
  have cRi := hM1.cell i hi'
  have cRr := hM1.cell r hr'
  rw [HH.out.sM.row i hi] at cRi
  rw [HH.out.sM.row r hr] at cRr
  have HO := Lib.hid (hM1.row i hi')
  have HS := Lib.hid (hM1.row r hr').seenAt
  have HMi := Lib.hid (HH.out.sM.row i hi)
  have HMr := Lib.hid (HH.out.sM.row r hr)
  have m1 : gr i ≠ GR := hM1.ne i hi'
  have m2 : gr r ≠ gr i := fun e => hne (hM1.inj r i hr' hi' e)
  have m3 : gr i < R := HGR.out i hi
  have m4 : tb < gr i := by have := (hM1.row i hi').lt.1; have := HH.out.tlt; have := HH.out.lm; omega
  have HM1 := Lib.hid hM1
  have HT1 := Lib.hid (HT.out.chg HC.out.2 (by simp; omega))
  have K2 := Lib.hid c2
  have K3 := Lib.hid cRi
  have K4 := Lib.hid cRr
  have K5 := Lib.hid c0
  clear hM1
  go_wp2
  go_region_held3 (fun w' => w'.cell? ⟨R, 0, none⟩ = some (.pointer (some ⟨tb, 0, none⟩)) ∧ w'.cell? ⟨R, 2, none⟩ = some (.slice (some ⟨GR, 0, none⟩) n CR) ∧ w'.cell? ⟨GR, i, none⟩ = some (.slice (some ⟨gr i, 0, none⟩) n (cr i)) ∧ w'.cell? ⟨GR, r, none⟩ = some (.slice (some ⟨gr r, 0, none⟩) n (cr r)))
    (first | go_keep | exact ⟨hC2.cell K5.out (by simp; omega), hC2.cell K2.out (by simp; omega), hC2.cell K3.out (by simp; omega), hC2.cell K4.out (by simp; omega)⟩)
    ((go_at_call 44; (with_reducible refine (addMul_at _ _ _ mid _ _ _ _ (M.getD i []) (M.getD r []) _ _ ?_ ?_ ?_ ?_ ?_ ?_ ?_ ?_ ?_).mono ?_); (exact HT1.out.alike rfl); omega; (exact HO.out.alike rfl); (exact HS.out.alike rfl); (intro b off e; cases e; exact m2); (exact HMi.out); (exact HMr.out); omega; (exact hf); rintro e w5 ⟨rfl, hO2, hC2⟩))
  go_wp2
  go_end0
  have h := HH.out
  have C1 := HC.out.2
  have C2 : Chg [gr i] w1 w5 := ((Chg.refl _ _).drew).trans hC2
  have hGR := h.hGR
  have hlm := h.lm
  have hmR := h.mR
  have l1 := (HLL.out.row i HI.out).lt.1
  have l2 := (HM.out.row i hi').lt.1
  have l3 := HGL.out i hi
  have hMid : Mid lo R w w5 := (C1.mid (by simp; omega)).trans (C2.mid (by simp; omega))
  refine ⟨rfl, ⟨h.tlt, hMid.cell h.c0 (.inr (Nat.le_refl _)), hMid.cell h.c1 (.inr (Nat.le_refl _)), hMid.cell h.c2 (.inr (Nat.le_refl _)), hMid.tab h.tab h.tlt, h.hGL, hGR, hlm, hmR,
    h.sL.set i _ (by rw [Mt.addMul_len]; exact h.sL.row i hi) (Mt.addMul_bytes _ _ _ (h.sL.byte i) (h.sL.byte r)), h.sM.set i _ (by rw [Mt.addMul_len]; exact h.sM.row i hi) (Mt.addMul_bytes _ _ _ (h.sM.byte i) (h.sM.byte r)),
    ⟨gl, cl, gr, cr, (HLL.out.setRow i HI.out _ C1 HC.out.1 (by rw [Mt.addMul_len])).chg C2 (by simp; omega) (fun k hk => ?_), HM1.out.setRow i hi' _ C2 hO2 (by rw [Mt.addMul_len]), HGL.out, HGR.out⟩⟩, hMid⟩
  rw [List.length_set, h.sL.len] at hk
  have := HGL.out k hk
  simp
  omega

end Go.Proofs.Ytnhledngeicekaa
