/-
  readMessage.
-/
import Derived.Test.YtggjpjpemgpeeaaWalksH7
import Derived.Test.YtggjpjpemgpeeaaWalksH1
import Derived.Test.YtggjpjpemgpeeaaLd2
namespace Go.Proofs.Ytggjpjpemgpeeaa
open Go.RowKit

theorem RdI.storeN {H : Nat} {w0 w w' : World} {R : Nat} {s : Pk.St} {t : TypeId} {Z C C' : Array Value} (h : RdI H w0 w R s t Z C) (hx : Bx w' (w0.heap.size + 1) t C') (hc : Chg [w0.heap.size + 1] w w') (hn : C'.toList.all notU8 = true) : RdI H w0 w' R s t Z C' :=
  ⟨h.rdr.other hc (by have := h.lt; omega) (by have := h.home; omega), h.z.chg hc (by simp), hx, h.chg.wide hc (by simp), h.lt, h.home, hn, h.noz⟩

theorem keepC {α : Type} {f : Pk.St → α × Pk.St} {enc : α → List Nat} (hc : Can f enc) {s s' : Pk.St} {N : Nat} (hn : (f s).2 = s') (K : Gf.Bytes s.1 ∧ s.1.length ≤ N) : Gf.Bytes s'.1 ∧ s'.1.length ≤ N := by
  subst hn
  have := hc.keep s K.1
  exact ⟨this.1, Nat.le_trans this.2 K.2⟩

theorem rd2_eq {α β : Type} {f : Pk.St → α × Pk.St} {g : Pk.St → β × Pk.St} {s s1 s2 : Pk.St} {x : α} {y : β} (h1 : (f s).1 = x) (h2 : (f s).2 = s1) (h3 : g s1 = (y, s2)) : rd2 f g s = ((x, y), s2) := by
  unfold rd2
  rw [h1, h2, h3]

section
variable {H : Nat} {R : Nat} {s s' : Pk.St} {w : World}

theorem at_num {z : Int} (h : RdrH H w R s) (hv : Pk.vN s = z) (hn : Pk.nN s = s') : Calls Try.prog 89 #[.pointer (some ⟨R, 0, none⟩)] w (RIntH H w R z s') := by
  subst hv hn
  exact rNumH R s w h

theorem at_ints {M : List Int} (h : RdrH H w R s) (hv : (rdL 16 rdN s).1 = M) (hn : (rdL 16 rdN s).2 = s') :
    Calls Try.prog 90 #[.pointer (some ⟨R, 0, none⟩), .int .i64 16, .func (.func 89) #[] #[]] w (RLi H w R M s') := by
  subst hv hn
  exact readInts_any R 16 s w h (by omega) (by omega)

theorem at_ent {E : Pe} (h : RdrH H w R s) (K : Gf.Bytes s.1 ∧ s.1.length ≤ 100000000) (hv : (rdE s).1 = E) (hn : (rdE s).2 = s') :
    Calls Try.prog 91 #[.pointer (some ⟨R, 0, none⟩)] w (REn H w R E s') := by
  subst hv hn
  exact readEntry_any R s w h K.2

theorem at_frs {F : List (Int × List Nat)} (h : RdrH H w R s) (K : Gf.Bytes s.1 ∧ s.1.length ≤ 100000000) (hv : (rdL 16 (rd2 rdN rdT) s).1 = F) (hn : (rdL 16 (rd2 rdN rdT) s).2 = s') :
    Calls Try.prog 92 #[.pointer (some ⟨R, 0, none⟩), .int .i64 16, .func (.func 93) #[] #[]] w (RLfrg H w R F s') := by
  subst hv hn
  exact readL_frg R 16 s w h K.1 K.2 (by omega) (by omega)

theorem at_keys {F : List (List Nat)} (h : RdrH H w R s) (K : Gf.Bytes s.1 ∧ s.1.length ≤ 100000000) (hv : (rdL 4096 rdT s).1 = F) (hn : (rdL 4096 rdT s).2 = s') :
    Calls Try.prog 94 #[.pointer (some ⟨R, 0, none⟩), .int .i64 4096, .func (.func 95) #[] #[]] w (RLstr H w R F s') := by
  subst hv hn
  exact readL_str R 4096 s w h K.1 K.2 (by omega) (by omega)

theorem at_srcs {F : List (Int × Int)} (h : RdrH H w R s) (K : Gf.Bytes s.1 ∧ s.1.length ≤ 100000000) (hv : (rdL 16 (rd2 rdN rdN) s).1 = F) (hn : (rdL 16 (rd2 rdN rdN) s).2 = s') :
    Calls Try.prog 96 #[.pointer (some ⟨R, 0, none⟩), .int .i64 16, .func (.func 97) #[] #[]] w (RLsrc H w R F s') := by
  subst hv hn
  exact readL_src R 16 s w h K.1 K.2 (by omega) (by omega)

theorem at_ents {F : List Pe} (h : RdrH H w R s) (K : Gf.Bytes s.1 ∧ s.1.length ≤ 100000000) (hv : (rdL 4096 rdE s).1 = F) (hn : (rdL 4096 rdE s).2 = s') :
    Calls Try.prog 98 #[.pointer (some ⟨R, 0, none⟩), .int .i64 4096, .func (.func 91) #[] #[]] w (RLe H w R F s') := by
  subst hv hn
  exact readEnts_any R 4096 s w h K.1 K.2 (by omega) (by omega)

end

/-- A message read by the Reader at R, in new memory. -/
def RMsg (H : Nat) (w : World) (R : Nat) (m : Pm) (s : Pk.St) (e : Ending) (w' : World) : Prop :=
  ∃ r : Rm, r.m = m ∧ e = .returned (.agg r.cells) ∧ Kept w.heap.size w' (fun w2 => MsgAt w2 r) ∧ RdrH H w' R s ∧ Chg [R] w w'

set_option maxRecDepth 100000 in
set_option maxHeartbeats 8000000 in
theorem readMessage_any {H : Nat} (R : Nat) (s : Pk.St) (w : World) (h : RdrH H w R s) (K : Gf.Bytes s.1 ∧ s.1.length ≤ 100000000) :
    Calls Try.prog 59 #[.pointer (some ⟨R, 0, none⟩)] w (RMsg H w R (ofTup (rdTM s).1) (rdTM s).2) := by
  have HI0 := Lib.hid (rdI_new w R s 35 #[.int .i64 0, .int .i64 0, .int .i64 0, .int .i64 0, .int .i64 0, .int .i64 0, .int .i64 0, .int .i64 0, .string ⟨#[]⟩, .int .i64 0, .int .u32 0, .slice none 0 0, .int .i64 0, .slice none 0 0, .slice none 0 0, .int .i64 0, .slice none 0 0, .slice none 0 0, .slice none 0 0] h rfl)
  have hRl := h.lt
  have hHl := h.home
  have HWF0 := Lib.hid (wf_of (rdTM_ok s K.1 (by have := K.2; omega)))
  have K0 := Lib.hid K
  clear h K
  obtain ⟨z1, e1⟩ : ∃ q, Pk.vN s = q := ⟨_, rfl⟩
  obtain ⟨s1, n1⟩ : ∃ q, Pk.nN s = q := ⟨_, rfl⟩
  have K1 := Lib.hid (keepC (s := s) (s' := s1) rdN_can n1 K0.out)
  obtain ⟨z2, e2⟩ : ∃ q, Pk.vN s1 = q := ⟨_, rfl⟩
  obtain ⟨s2, n2⟩ : ∃ q, Pk.nN s1 = q := ⟨_, rfl⟩
  have K2 := Lib.hid (keepC (s := s1) (s' := s2) rdN_can n2 K1.out)
  obtain ⟨z3, e3⟩ : ∃ q, Pk.vN s2 = q := ⟨_, rfl⟩
  obtain ⟨s3, n3⟩ : ∃ q, Pk.nN s2 = q := ⟨_, rfl⟩
  have K3 := Lib.hid (keepC (s := s2) (s' := s3) rdN_can n3 K2.out)
  obtain ⟨z4, e4⟩ : ∃ q, Pk.vN s3 = q := ⟨_, rfl⟩
  obtain ⟨s4, n4⟩ : ∃ q, Pk.nN s3 = q := ⟨_, rfl⟩
  have K4 := Lib.hid (keepC (s := s3) (s' := s4) rdN_can n4 K3.out)
  obtain ⟨z5, e5⟩ : ∃ q, Pk.vN s4 = q := ⟨_, rfl⟩
  obtain ⟨s5, n5⟩ : ∃ q, Pk.nN s4 = q := ⟨_, rfl⟩
  have K5 := Lib.hid (keepC (s := s4) (s' := s5) rdN_can n5 K4.out)
  obtain ⟨z6, e6⟩ : ∃ q, Pk.vN s5 = q := ⟨_, rfl⟩
  obtain ⟨s6, n6⟩ : ∃ q, Pk.nN s5 = q := ⟨_, rfl⟩
  have K6 := Lib.hid (keepC (s := s5) (s' := s6) rdN_can n6 K5.out)
  obtain ⟨M, e7⟩ : ∃ q, (rdL 16 rdN s6).1 = q := ⟨_, rfl⟩
  obtain ⟨s7, n7⟩ : ∃ q, (rdL 16 rdN s6).2 = q := ⟨_, rfl⟩
  have K7 := Lib.hid (keepC (s := s6) (s' := s7) (rdL_can 16 rdN_can) n7 K6.out)
  obtain ⟨E, e8⟩ : ∃ q, (rdE s7).1 = q := ⟨_, rfl⟩
  obtain ⟨s8, n8⟩ : ∃ q, (rdE s7).2 = q := ⟨_, rfl⟩
  have K8 := Lib.hid (keepC (s := s7) (s' := s8) rdE_can n8 K7.out)
  obtain ⟨F, e9⟩ : ∃ q, (rdL 16 (rd2 rdN rdT) s8).1 = q := ⟨_, rfl⟩
  obtain ⟨s9, n9⟩ : ∃ q, (rdL 16 (rd2 rdN rdT) s8).2 = q := ⟨_, rfl⟩
  have K9 := Lib.hid (keepC (s := s8) (s' := s9) (rdL_can 16 (rd2_can rdN_can rdT_can)) n9 K8.out)
  obtain ⟨K, e10⟩ : ∃ q, (rdL 4096 rdT s9).1 = q := ⟨_, rfl⟩
  obtain ⟨s10, n10⟩ : ∃ q, (rdL 4096 rdT s9).2 = q := ⟨_, rfl⟩
  have K10 := Lib.hid (keepC (s := s9) (s' := s10) (rdL_can 4096 rdT_can) n10 K9.out)
  obtain ⟨S, e11⟩ : ∃ q, (rdL 16 (rd2 rdN rdN) s10).1 = q := ⟨_, rfl⟩
  obtain ⟨s11, n11⟩ : ∃ q, (rdL 16 (rd2 rdN rdN) s10).2 = q := ⟨_, rfl⟩
  have K11 := Lib.hid (keepC (s := s10) (s' := s11) (rdL_can 16 (rd2_can rdN_can rdN_can)) n11 K10.out)
  obtain ⟨N, e12⟩ : ∃ q, (rdL 4096 rdE s11).1 = q := ⟨_, rfl⟩
  obtain ⟨s12, n12⟩ : ∃ q, (rdL 4096 rdE s11).2 = q := ⟨_, rfl⟩
  have K12 := Lib.hid (keepC (s := s11) (s' := s12) (rdL_can 4096 rdE_can) n12 K11.out)
  have HE : Hid (rdTM s = ((z1, z2, z3, z4, z5, z6, M, E, F, K, S, N), s12)) := by
    exact rd2_eq e1 n1 (rd2_eq e2 n2 (rd2_eq e3 n3 (rd2_eq e4 n4 (rd2_eq e5 n5 (rd2_eq e6 n6 (rd2_eq e7 n7 (rd2_eq e8 n8 (rd2_eq e9 n9 (rd2_eq e10 n10 (rd2_eq e11 n11 (Prod.ext e12 n12)))))))))))
  rw [HE.out] at HWF0
  have E1 := Lib.hid e1
  have N1 := Lib.hid n1
  have E2 := Lib.hid e2
  have N2 := Lib.hid n2
  have E3 := Lib.hid e3
  have N3 := Lib.hid n3
  have E4 := Lib.hid e4
  have N4 := Lib.hid n4
  have E5 := Lib.hid e5
  have N5 := Lib.hid n5
  have E6 := Lib.hid e6
  have N6 := Lib.hid n6
  have E7 := Lib.hid e7
  have N7 := Lib.hid n7
  have E8 := Lib.hid e8
  have N8 := Lib.hid n8
  have E9 := Lib.hid e9
  have N9 := Lib.hid n9
  have E10 := Lib.hid e10
  have N10 := Lib.hid n10
  have E11 := Lib.hid e11
  have N11 := Lib.hid n11
  have E12 := Lib.hid e12
  have N12 := Lib.hid n12
  clear e1 n1 e2 n2 e3 n3 e4 n4 e5 n5 e6 n6 e7 n7 e8 n8 e9 n9 e10 n10 e11 n11 e12 n12
  rw [HE.out]
  clear HE
  go_enter Try.func59, Try.ntmps59
  go_wp2_with fail
  generalize (w.alloc (.cells #[.int .i64 0, .int .i64 0, .int .i64 0, .int .i64 0, .int .i64 0, .int .i64 0, .int .i64 0, .int .i64 0, .string ⟨#[]⟩, .int .i64 0, .int .u32 0, .slice none 0 0, .int .i64 0, .slice none 0 0, .slice none 0 0, .int .i64 0, .slice none 0 0, .slice none 0 0, .slice none 0 0] 35)).alloc (.cells #[.int .i64 0, .int .i64 0, .int .i64 0, .int .i64 0, .int .i64 0, .int .i64 0, .int .i64 0, .int .i64 0, .string ⟨#[]⟩, .int .i64 0, .int .u32 0, .slice none 0 0, .int .i64 0, .slice none 0 0, .slice none 0 0, .int .i64 0, .slice none 0 0, .slice none 0 0, .slice none 0 0] 35) = w0 at *
  refine (at_num (s := s) HI0.out.rdr E1.out N1.out).mono ?_
  rintro e w1 ⟨rfl, hr1, hb1⟩
  have HJ := Lib.hid (HI0.out.read hr1 hb1)
  have k0 := HJ.out.cell 0 (.int .i64 0) rfl
  have f0 := HJ.out.free 0
  clear hr1 hb1 HI0
  go_wp2_with fail
  have HI1 : Hid (RdI H w (w1.setCell ⟨w.heap.size + 1, 0, none⟩ (.int .i64 z1)) R s1 35 #[.int .i64 0, .int .i64 0, .int .i64 0, .int .i64 0, .int .i64 0, .int .i64 0, .int .i64 0, .int .i64 0, .string ⟨#[]⟩, .int .i64 0, .int .u32 0, .slice none 0 0, .int .i64 0, .slice none 0 0, .slice none 0 0, .int .i64 0, .slice none 0 0, .slice none 0 0, .slice none 0 0] #[.int .i64 z1, .int .i64 0, .int .i64 0, .int .i64 0, .int .i64 0, .int .i64 0, .int .i64 0, .int .i64 0, .string ⟨#[]⟩, .int .i64 0, .int .u32 0, .slice none 0 0, .int .i64 0, .slice none 0 0, .slice none 0 0, .int .i64 0, .slice none 0 0, .slice none 0 0, .slice none 0 0]) := HJ.out.store 0 (.int .i64 z1) rfl
  generalize (w1.setCell ⟨w.heap.size + 1, 0, none⟩ (.int .i64 z1)) = x1 at *
  clear k0 f0 HJ 
  refine (at_num (s := s1) HI1.out.rdr E2.out N2.out).mono ?_
  rintro e w1 ⟨rfl, hr1, hb1⟩
  have HJ := Lib.hid (HI1.out.read hr1 hb1)
  have k0 := HJ.out.cell 1 (.int .i64 0) rfl
  have f0 := HJ.out.free 1
  clear hr1 hb1 HI1
  go_wp2_with fail
  have HI2 : Hid (RdI H w (w1.setCell ⟨w.heap.size + 1, 1, none⟩ (.int .i64 z2)) R s2 35 #[.int .i64 0, .int .i64 0, .int .i64 0, .int .i64 0, .int .i64 0, .int .i64 0, .int .i64 0, .int .i64 0, .string ⟨#[]⟩, .int .i64 0, .int .u32 0, .slice none 0 0, .int .i64 0, .slice none 0 0, .slice none 0 0, .int .i64 0, .slice none 0 0, .slice none 0 0, .slice none 0 0] #[.int .i64 z1, .int .i64 z2, .int .i64 0, .int .i64 0, .int .i64 0, .int .i64 0, .int .i64 0, .int .i64 0, .string ⟨#[]⟩, .int .i64 0, .int .u32 0, .slice none 0 0, .int .i64 0, .slice none 0 0, .slice none 0 0, .int .i64 0, .slice none 0 0, .slice none 0 0, .slice none 0 0]) := HJ.out.store 1 (.int .i64 z2) rfl
  generalize (w1.setCell ⟨w.heap.size + 1, 1, none⟩ (.int .i64 z2)) = x2 at *
  clear k0 f0 HJ 
  refine (at_num (s := s2) HI2.out.rdr E3.out N3.out).mono ?_
  rintro e w1 ⟨rfl, hr1, hb1⟩
  have HJ := Lib.hid (HI2.out.read hr1 hb1)
  have k0 := HJ.out.cell 2 (.int .i64 0) rfl
  have f0 := HJ.out.free 2
  clear hr1 hb1 HI2
  go_wp2_with fail
  have HI3 : Hid (RdI H w (w1.setCell ⟨w.heap.size + 1, 2, none⟩ (.int .i64 z3)) R s3 35 #[.int .i64 0, .int .i64 0, .int .i64 0, .int .i64 0, .int .i64 0, .int .i64 0, .int .i64 0, .int .i64 0, .string ⟨#[]⟩, .int .i64 0, .int .u32 0, .slice none 0 0, .int .i64 0, .slice none 0 0, .slice none 0 0, .int .i64 0, .slice none 0 0, .slice none 0 0, .slice none 0 0] #[.int .i64 z1, .int .i64 z2, .int .i64 z3, .int .i64 0, .int .i64 0, .int .i64 0, .int .i64 0, .int .i64 0, .string ⟨#[]⟩, .int .i64 0, .int .u32 0, .slice none 0 0, .int .i64 0, .slice none 0 0, .slice none 0 0, .int .i64 0, .slice none 0 0, .slice none 0 0, .slice none 0 0]) := HJ.out.store 2 (.int .i64 z3) rfl
  generalize (w1.setCell ⟨w.heap.size + 1, 2, none⟩ (.int .i64 z3)) = x3 at *
  clear k0 f0 HJ 
  refine (at_num (s := s3) HI3.out.rdr E4.out N4.out).mono ?_
  rintro e w1 ⟨rfl, hr1, hb1⟩
  have HJ := Lib.hid (HI3.out.read hr1 hb1)
  have k0 := HJ.out.cell 3 (.int .i64 0) rfl
  have f0 := HJ.out.free 3
  clear hr1 hb1 HI3
  go_wp2_with fail
  have HI4 : Hid (RdI H w (w1.setCell ⟨w.heap.size + 1, 3, none⟩ (.int .i64 z4)) R s4 35 #[.int .i64 0, .int .i64 0, .int .i64 0, .int .i64 0, .int .i64 0, .int .i64 0, .int .i64 0, .int .i64 0, .string ⟨#[]⟩, .int .i64 0, .int .u32 0, .slice none 0 0, .int .i64 0, .slice none 0 0, .slice none 0 0, .int .i64 0, .slice none 0 0, .slice none 0 0, .slice none 0 0] #[.int .i64 z1, .int .i64 z2, .int .i64 z3, .int .i64 z4, .int .i64 0, .int .i64 0, .int .i64 0, .int .i64 0, .string ⟨#[]⟩, .int .i64 0, .int .u32 0, .slice none 0 0, .int .i64 0, .slice none 0 0, .slice none 0 0, .int .i64 0, .slice none 0 0, .slice none 0 0, .slice none 0 0]) := HJ.out.store 3 (.int .i64 z4) rfl
  generalize (w1.setCell ⟨w.heap.size + 1, 3, none⟩ (.int .i64 z4)) = x4 at *
  clear k0 f0 HJ 
  refine (at_num (s := s4) HI4.out.rdr E5.out N5.out).mono ?_
  rintro e w1 ⟨rfl, hr1, hb1⟩
  have HJ := Lib.hid (HI4.out.read hr1 hb1)
  have k0 := HJ.out.cell 12 (.int .i64 0) rfl
  have f0 := HJ.out.free 12
  clear hr1 hb1 HI4
  go_wp2_with fail
  have HI5 : Hid (RdI H w (w1.setCell ⟨w.heap.size + 1, 12, none⟩ (.int .i64 z5)) R s5 35 #[.int .i64 0, .int .i64 0, .int .i64 0, .int .i64 0, .int .i64 0, .int .i64 0, .int .i64 0, .int .i64 0, .string ⟨#[]⟩, .int .i64 0, .int .u32 0, .slice none 0 0, .int .i64 0, .slice none 0 0, .slice none 0 0, .int .i64 0, .slice none 0 0, .slice none 0 0, .slice none 0 0] #[.int .i64 z1, .int .i64 z2, .int .i64 z3, .int .i64 z4, .int .i64 0, .int .i64 0, .int .i64 0, .int .i64 0, .string ⟨#[]⟩, .int .i64 0, .int .u32 0, .slice none 0 0, .int .i64 z5, .slice none 0 0, .slice none 0 0, .int .i64 0, .slice none 0 0, .slice none 0 0, .slice none 0 0]) := HJ.out.store 12 (.int .i64 z5) rfl
  generalize (w1.setCell ⟨w.heap.size + 1, 12, none⟩ (.int .i64 z5)) = x5 at *
  clear k0 f0 HJ 
  refine (at_num (s := s5) HI5.out.rdr E6.out N6.out).mono ?_
  rintro e w1 ⟨rfl, hr1, hb1⟩
  have HJ := Lib.hid (HI5.out.read hr1 hb1)
  have k0 := HJ.out.cell 15 (.int .i64 0) rfl
  have f0 := HJ.out.free 15
  clear hr1 hb1 HI5
  go_wp2_with fail
  have HI6 : Hid (RdI H w (w1.setCell ⟨w.heap.size + 1, 15, none⟩ (.int .i64 z6)) R s6 35 #[.int .i64 0, .int .i64 0, .int .i64 0, .int .i64 0, .int .i64 0, .int .i64 0, .int .i64 0, .int .i64 0, .string ⟨#[]⟩, .int .i64 0, .int .u32 0, .slice none 0 0, .int .i64 0, .slice none 0 0, .slice none 0 0, .int .i64 0, .slice none 0 0, .slice none 0 0, .slice none 0 0] #[.int .i64 z1, .int .i64 z2, .int .i64 z3, .int .i64 z4, .int .i64 0, .int .i64 0, .int .i64 0, .int .i64 0, .string ⟨#[]⟩, .int .i64 0, .int .u32 0, .slice none 0 0, .int .i64 z5, .slice none 0 0, .slice none 0 0, .int .i64 z6, .slice none 0 0, .slice none 0 0, .slice none 0 0]) := HJ.out.store 15 (.int .i64 z6) rfl
  generalize (w1.setCell ⟨w.heap.size + 1, 15, none⟩ (.int .i64 z6)) = x6 at *
  clear k0 f0 HJ 
  refine (at_ints (s := s6) HI6.out.rdr E7.out N7.out).mono ?_
  rintro e w1 ⟨ma, mc, rfl, hkk, hr1, hb1⟩
  have HKMr : Hid (Kept (w.heap.size + 2) w1 _) := (Kept.low (F := fun w2 => IntsAt w2 ma mc M) hkk (by have := HI6.out.c.lt; omega))
  obtain ⟨lM, hln⟩ : ∃ q, M.length = q := ⟨_, rfl⟩
  have HLM := Lib.hid hln
  rw [hln]
  clear hln
  clear hkk
  have HJ := Lib.hid (HI6.out.read hr1 hb1)
  have k0 := HJ.out.cell 16 (.slice none 0 0) rfl
  have f0 := HJ.out.free 16
  clear hr1 hb1 HI6
  go_wp2_with fail
  have HI7 : Hid (RdI H w (w1.setCell ⟨w.heap.size + 1, 16, none⟩ (.slice ma lM mc)) R s7 35 #[.int .i64 0, .int .i64 0, .int .i64 0, .int .i64 0, .int .i64 0, .int .i64 0, .int .i64 0, .int .i64 0, .string ⟨#[]⟩, .int .i64 0, .int .u32 0, .slice none 0 0, .int .i64 0, .slice none 0 0, .slice none 0 0, .int .i64 0, .slice none 0 0, .slice none 0 0, .slice none 0 0] #[.int .i64 z1, .int .i64 z2, .int .i64 z3, .int .i64 z4, .int .i64 0, .int .i64 0, .int .i64 0, .int .i64 0, .string ⟨#[]⟩, .int .i64 0, .int .u32 0, .slice none 0 0, .int .i64 z5, .slice none 0 0, .slice none 0 0, .int .i64 z6, .slice ma lM mc, .slice none 0 0, .slice none 0 0]) := HJ.out.store 16 (.slice ma lM mc) rfl
  have HKM := Lib.hid (HKMr.out.step (chg_set w1 (w.heap.size + 1) 16 (.slice ma lM mc)) (by simp))
  generalize (w1.setCell ⟨w.heap.size + 1, 16, none⟩ (.slice ma lM mc)) = x7 at *
  clear k0 f0 HJ HKMr
  refine (at_ent (s := s7) HI7.out.rdr K7.out E8.out N8.out).mono ?_
  rintro e w1 ⟨loc, ec, rfl, hse, hfe, hr1, hb1⟩
  have HKMr := Lib.hid (HKM.out.step hb1 (by simp; omega))
  clear HKM
  have HKEr : Hid (Kept (w.heap.size + 2) w1 _) := (kept_seen hse hfe (by have := HI7.out.c.lt; omega))
  obtain ⟨lE, hln⟩ : ∃ q, E.frag.length = q := ⟨_, rfl⟩
  have HLE := Lib.hid hln
  rw [hln]
  clear hln
  clear hse hfe
  have HJ := Lib.hid (HI7.out.read hr1 hb1)
  clear hr1 hb1 HI7
  go_wp2_with (refine wpList_st 25 8 (w.heap.size + 1) 4 35 #[.int .i64 E.seq, .int .i64 E.client, .int .i64 E.num, .int .i64 E.op, .string (strB E.key), .int .i64 E.size, .int .u32 (E.sum : Int), .slice loc lE ec] _ #[.int .i64 z1, .int .i64 z2, .int .i64 z3, .int .i64 z4, .int .i64 E.seq, .int .i64 E.client, .int .i64 E.num, .int .i64 E.op, .string (strB E.key), .int .i64 E.size, .int .u32 (E.sum : Int), .slice loc lE ec, .int .i64 z5, .slice none 0 0, .slice none 0 0, .int .i64 z6, .slice ma lM mc, .slice none 0 0, .slice none 0 0] _ _ rfl rfl rfl rfl rfl (by kernel_rfl) rfl HJ.out.c (by simp) (by intro v hv; simp at hv; rcases hv with rfl | rfl | rfl | rfl | rfl | rfl | rfl | rfl <;> rfl) rfl ?_; intro x8 hx hc; have HI8 := Lib.hid (HJ.out.storeN hx hc rfl); have HKM := Lib.hid (HKMr.out.step hc (by simp)); have HKE := Lib.hid (HKEr.out.step hc (by simp)); clear hx hc HJ HKMr HKEr)
  refine (at_frs (s := s8) HI8.out.rdr K8.out E9.out N9.out).mono ?_
  rintro e w1 ⟨fs, fa, fc, rfl, hmap, hkk, hr1, hb1⟩
  have HMAP := Lib.hid hmap
  clear hmap
  have HKMr := Lib.hid (HKM.out.step hb1 (by simp; omega))
  have HKEr := Lib.hid (HKE.out.step hb1 (by simp; omega))
  clear HKM HKE
  have HKFr : Hid (Kept (w.heap.size + 2) w1 _) := (hkk.low (by have := HI8.out.c.lt; omega))
  obtain ⟨lF, hln⟩ : ∃ q, fs.length = q := ⟨_, rfl⟩
  have HLF := Lib.hid hln
  rw [hln]
  clear hln
  clear hkk
  have HJ := Lib.hid (HI8.out.read hr1 hb1)
  have k0 := HJ.out.cell 13 (.slice none 0 0) rfl
  have f0 := HJ.out.free 13
  clear hr1 hb1 HI8
  go_wp2_with fail
  have HI9 : Hid (RdI H w (w1.setCell ⟨w.heap.size + 1, 13, none⟩ (.slice fa lF fc)) R s9 35 #[.int .i64 0, .int .i64 0, .int .i64 0, .int .i64 0, .int .i64 0, .int .i64 0, .int .i64 0, .int .i64 0, .string ⟨#[]⟩, .int .i64 0, .int .u32 0, .slice none 0 0, .int .i64 0, .slice none 0 0, .slice none 0 0, .int .i64 0, .slice none 0 0, .slice none 0 0, .slice none 0 0] #[.int .i64 z1, .int .i64 z2, .int .i64 z3, .int .i64 z4, .int .i64 E.seq, .int .i64 E.client, .int .i64 E.num, .int .i64 E.op, .string (strB E.key), .int .i64 E.size, .int .u32 (E.sum : Int), .slice loc lE ec, .int .i64 z5, .slice fa lF fc, .slice none 0 0, .int .i64 z6, .slice ma lM mc, .slice none 0 0, .slice none 0 0]) := HJ.out.store 13 (.slice fa lF fc) rfl
  have HKM := Lib.hid (HKMr.out.step (chg_set w1 (w.heap.size + 1) 13 (.slice fa lF fc)) (by simp))
  have HKE := Lib.hid (HKEr.out.step (chg_set w1 (w.heap.size + 1) 13 (.slice fa lF fc)) (by simp))
  have HKF := Lib.hid (HKFr.out.step (chg_set w1 (w.heap.size + 1) 13 (.slice fa lF fc)) (by simp))
  generalize (w1.setCell ⟨w.heap.size + 1, 13, none⟩ (.slice fa lF fc)) = x9 at *
  clear k0 f0 HJ HKMr HKEr HKFr
  refine (at_keys (s := s9) HI9.out.rdr K9.out E10.out N10.out).mono ?_
  rintro e w1 ⟨ka, kc, rfl, hkk, hr1, hb1⟩
  have HKMr := Lib.hid (HKM.out.step hb1 (by simp; omega))
  have HKEr := Lib.hid (HKE.out.step hb1 (by simp; omega))
  have HKFr := Lib.hid (HKF.out.step hb1 (by simp; omega))
  clear HKM HKE HKF
  have HKKr : Hid (Kept (w.heap.size + 2) w1 _) := (hkk.low (by have := HI9.out.c.lt; omega))
  obtain ⟨lK, hln⟩ : ∃ q, K.length = q := ⟨_, rfl⟩
  have HLK := Lib.hid hln
  rw [hln]
  clear hln
  clear hkk
  have HJ := Lib.hid (HI9.out.read hr1 hb1)
  have k0 := HJ.out.cell 14 (.slice none 0 0) rfl
  have f0 := HJ.out.free 14
  clear hr1 hb1 HI9
  go_wp2_with fail
  have HI10 : Hid (RdI H w (w1.setCell ⟨w.heap.size + 1, 14, none⟩ (.slice ka lK kc)) R s10 35 #[.int .i64 0, .int .i64 0, .int .i64 0, .int .i64 0, .int .i64 0, .int .i64 0, .int .i64 0, .int .i64 0, .string ⟨#[]⟩, .int .i64 0, .int .u32 0, .slice none 0 0, .int .i64 0, .slice none 0 0, .slice none 0 0, .int .i64 0, .slice none 0 0, .slice none 0 0, .slice none 0 0] #[.int .i64 z1, .int .i64 z2, .int .i64 z3, .int .i64 z4, .int .i64 E.seq, .int .i64 E.client, .int .i64 E.num, .int .i64 E.op, .string (strB E.key), .int .i64 E.size, .int .u32 (E.sum : Int), .slice loc lE ec, .int .i64 z5, .slice fa lF fc, .slice ka lK kc, .int .i64 z6, .slice ma lM mc, .slice none 0 0, .slice none 0 0]) := HJ.out.store 14 (.slice ka lK kc) rfl
  have HKM := Lib.hid (HKMr.out.step (chg_set w1 (w.heap.size + 1) 14 (.slice ka lK kc)) (by simp))
  have HKE := Lib.hid (HKEr.out.step (chg_set w1 (w.heap.size + 1) 14 (.slice ka lK kc)) (by simp))
  have HKF := Lib.hid (HKFr.out.step (chg_set w1 (w.heap.size + 1) 14 (.slice ka lK kc)) (by simp))
  have HKK := Lib.hid (HKKr.out.step (chg_set w1 (w.heap.size + 1) 14 (.slice ka lK kc)) (by simp))
  generalize (w1.setCell ⟨w.heap.size + 1, 14, none⟩ (.slice ka lK kc)) = x10 at *
  clear k0 f0 HJ HKMr HKEr HKFr HKKr
  refine (at_srcs (s := s10) HI10.out.rdr K10.out E11.out N11.out).mono ?_
  rintro e w1 ⟨sa, sc, rfl, hkk, hr1, hb1⟩
  have HKMr := Lib.hid (HKM.out.step hb1 (by simp; omega))
  have HKEr := Lib.hid (HKE.out.step hb1 (by simp; omega))
  have HKFr := Lib.hid (HKF.out.step hb1 (by simp; omega))
  have HKKr := Lib.hid (HKK.out.step hb1 (by simp; omega))
  clear HKM HKE HKF HKK
  have HKSr : Hid (Kept (w.heap.size + 2) w1 _) := (hkk.low (by have := HI10.out.c.lt; omega))
  obtain ⟨lS, hln⟩ : ∃ q, S.length = q := ⟨_, rfl⟩
  have HLS := Lib.hid hln
  rw [hln]
  clear hln
  clear hkk
  have HJ := Lib.hid (HI10.out.read hr1 hb1)
  have k0 := HJ.out.cell 17 (.slice none 0 0) rfl
  have f0 := HJ.out.free 17
  clear hr1 hb1 HI10
  go_wp2_with fail
  have HI11 : Hid (RdI H w (w1.setCell ⟨w.heap.size + 1, 17, none⟩ (.slice sa lS sc)) R s11 35 #[.int .i64 0, .int .i64 0, .int .i64 0, .int .i64 0, .int .i64 0, .int .i64 0, .int .i64 0, .int .i64 0, .string ⟨#[]⟩, .int .i64 0, .int .u32 0, .slice none 0 0, .int .i64 0, .slice none 0 0, .slice none 0 0, .int .i64 0, .slice none 0 0, .slice none 0 0, .slice none 0 0] #[.int .i64 z1, .int .i64 z2, .int .i64 z3, .int .i64 z4, .int .i64 E.seq, .int .i64 E.client, .int .i64 E.num, .int .i64 E.op, .string (strB E.key), .int .i64 E.size, .int .u32 (E.sum : Int), .slice loc lE ec, .int .i64 z5, .slice fa lF fc, .slice ka lK kc, .int .i64 z6, .slice ma lM mc, .slice sa lS sc, .slice none 0 0]) := HJ.out.store 17 (.slice sa lS sc) rfl
  have HKM := Lib.hid (HKMr.out.step (chg_set w1 (w.heap.size + 1) 17 (.slice sa lS sc)) (by simp))
  have HKE := Lib.hid (HKEr.out.step (chg_set w1 (w.heap.size + 1) 17 (.slice sa lS sc)) (by simp))
  have HKF := Lib.hid (HKFr.out.step (chg_set w1 (w.heap.size + 1) 17 (.slice sa lS sc)) (by simp))
  have HKK := Lib.hid (HKKr.out.step (chg_set w1 (w.heap.size + 1) 17 (.slice sa lS sc)) (by simp))
  have HKS := Lib.hid (HKSr.out.step (chg_set w1 (w.heap.size + 1) 17 (.slice sa lS sc)) (by simp))
  generalize (w1.setCell ⟨w.heap.size + 1, 17, none⟩ (.slice sa lS sc)) = x11 at *
  clear k0 f0 HJ HKMr HKEr HKFr HKKr HKSr
  refine (at_ents (s := s11) HI11.out.rdr K11.out E12.out N12.out).mono ?_
  rintro e w1 ⟨na, nc, rfl, hkk, hr1, hb1⟩
  have HKMr := Lib.hid (HKM.out.step hb1 (by simp; omega))
  have HKEr := Lib.hid (HKE.out.step hb1 (by simp; omega))
  have HKFr := Lib.hid (HKF.out.step hb1 (by simp; omega))
  have HKKr := Lib.hid (HKK.out.step hb1 (by simp; omega))
  have HKSr := Lib.hid (HKS.out.step hb1 (by simp; omega))
  clear HKM HKE HKF HKK HKS
  have HKNr : Hid (Kept (w.heap.size + 2) w1 _) := (Kept.low (F := fun w2 => EnsAt w2 na nc N) hkk (by have := HI11.out.c.lt; omega))
  obtain ⟨lN, hln⟩ : ∃ q, N.length = q := ⟨_, rfl⟩
  have HLN := Lib.hid hln
  rw [hln]
  clear hln
  clear hkk
  have HJ := Lib.hid (HI11.out.read hr1 hb1)
  have k0 := HJ.out.cell 18 (.slice none 0 0) rfl
  have f0 := HJ.out.free 18
  clear hr1 hb1 HI11
  have HI12 : Hid (RdI H w (w1.setCell ⟨w.heap.size + 1, 18, none⟩ (.slice na lN nc)) R s12 35 #[.int .i64 0, .int .i64 0, .int .i64 0, .int .i64 0, .int .i64 0, .int .i64 0, .int .i64 0, .int .i64 0, .string ⟨#[]⟩, .int .i64 0, .int .u32 0, .slice none 0 0, .int .i64 0, .slice none 0 0, .slice none 0 0, .int .i64 0, .slice none 0 0, .slice none 0 0, .slice none 0 0] #[.int .i64 z1, .int .i64 z2, .int .i64 z3, .int .i64 z4, .int .i64 E.seq, .int .i64 E.client, .int .i64 E.num, .int .i64 E.op, .string (strB E.key), .int .i64 E.size, .int .u32 (E.sum : Int), .slice loc lE ec, .int .i64 z5, .slice fa lF fc, .slice ka lK kc, .int .i64 z6, .slice ma lM mc, .slice sa lS sc, .slice na lN nc]) := HJ.out.store 18 (.slice na lN nc) rfl
  have HKM := Lib.hid (HKMr.out.step (chg_set w1 (w.heap.size + 1) 18 (.slice na lN nc)) (by simp))
  have HKE := Lib.hid (HKEr.out.step (chg_set w1 (w.heap.size + 1) 18 (.slice na lN nc)) (by simp))
  have HKF := Lib.hid (HKFr.out.step (chg_set w1 (w.heap.size + 1) 18 (.slice na lN nc)) (by simp))
  have HKK := Lib.hid (HKKr.out.step (chg_set w1 (w.heap.size + 1) 18 (.slice na lN nc)) (by simp))
  have HKS := Lib.hid (HKSr.out.step (chg_set w1 (w.heap.size + 1) 18 (.slice na lN nc)) (by simp))
  have HKN := Lib.hid (HKNr.out.step (chg_set w1 (w.heap.size + 1) 18 (.slice na lN nc)) (by simp))
  clear HKMr HKEr HKFr HKKr HKSr HKNr HJ
  go_wp2_with (first | refine wpList_ldM _ _ _ rfl rfl rfl rfl HI12.out.c.box ?_ | (refine wpList_st 35 19 w.heap.size 0 35 #[.int .i64 z1, .int .i64 z2, .int .i64 z3, .int .i64 z4, .int .i64 E.seq, .int .i64 E.client, .int .i64 E.num, .int .i64 E.op, .string (strB E.key), .int .i64 E.size, .int .u32 (E.sum : Int), .slice loc lE ec, .int .i64 z5, .slice fa lF fc, .slice ka lK kc, .int .i64 z6, .slice ma lM mc, .slice sa lS sc, .slice na lN nc] _ #[.int .i64 z1, .int .i64 z2, .int .i64 z3, .int .i64 z4, .int .i64 E.seq, .int .i64 E.client, .int .i64 E.num, .int .i64 E.op, .string (strB E.key), .int .i64 E.size, .int .u32 (E.sum : Int), .slice loc lE ec, .int .i64 z5, .slice fa lF fc, .slice ka lK kc, .int .i64 z6, .slice ma lM mc, .slice sa lS sc, .slice na lN nc] _ _ rfl rfl rfl rfl rfl (by kernel_rfl) rfl HI12.out.z (by simp) (by intro v hv; simp at hv; rcases hv with rfl | rfl | rfl | rfl | rfl | rfl | rfl | rfl | rfl | rfl | rfl | rfl | rfl | rfl | rfl | rfl | rfl | rfl | rfl <;> rfl) rfl ?_; intro wf hx hc))
  have HF12 := Lib.hid (HI12.out.rdr.other hc (by omega) (by omega))
  have HCF := Lib.hid (HI12.out.chg.wide hc (by simp))
  have HKM2 := Lib.hid ((HKM.out.step hc (by simp)).low (L' := w.heap.size) (by omega))
  have HKE2 := Lib.hid ((HKE.out.step hc (by simp)).low (L' := w.heap.size) (by omega))
  have HKF2 := Lib.hid ((HKF.out.step hc (by simp)).low (L' := w.heap.size) (by omega))
  have HKK2 := Lib.hid ((HKK.out.step hc (by simp)).low (L' := w.heap.size) (by omega))
  have HKS2 := Lib.hid ((HKS.out.step hc (by simp)).low (L' := w.heap.size) (by omega))
  have HKN2 := Lib.hid ((HKN.out.step hc (by simp)).low (L' := w.heap.size) (by omega))
  have hld := run_ldvM w.heap.size _ rfl hx.box
  refine bodyPost_ret (v := .agg #[.int .i64 z1, .int .i64 z2, .int .i64 z3, .int .i64 z4, .int .i64 E.seq, .int .i64 E.client, .int .i64 E.num, .int .i64 E.op, .string (strB E.key), .int .i64 E.size, .int .u32 (E.sum : Int), .slice loc lE ec, .int .i64 z5, .slice fa lF fc, .slice ka lK kc, .int .i64 z6, .slice ma lM mc, .slice sa lS sc, .slice na lN nc]) (results_cell Try.results59 rfl hld) rfl ?_
  refine ⟨⟨⟨z1, z2, z3, z4, E, z5, F, K, z6, M, S, N⟩, fs, loc, ec, fa, fc, ka, kc, ma, mc, sa, sc, na, nc, lE, lF, lK, lM, lS, lN⟩, rfl, rfl, fun gs w2 hb hg => ⟨HKE2.out gs w2 hb hg, HKF2.out gs w2 hb hg, HKK2.out gs w2 hb hg, HKM2.out gs w2 hb hg, HKS2.out gs w2 hb hg, HKN2.out gs w2 hb hg, HLE.out, HLF.out, HLK.out, HLM.out, HLS.out, HLN.out, HMAP.out, HWF0.out⟩, HF12.out, HCF.out⟩

end Go.Proofs.Ytggjpjpemgpeeaa
