/-
  The walk of the law MsgTurned.
-/
import Derived.Test.YtggjpjpemgpeeaaAwake12
import Derived.Test.YtggjpjpemgpeeaaWalksH5
import Derived.Test.YtggjpjpemgpeeaaExt
import Derived.Test.YtggjpjpemgpeeaaTrn
import Derived.Test.YtggjpjpemgpeeaaLaw43
import Derived.Deep.DeepCutAuto
namespace Go.Proofs.Ytggjpjpemgpeeaa
open Go.RowKit



theorem sameMsg_nought (x : World) : Calls Try.prog 18 #[.agg #[.int .i64 0, .int .i64 0, .int .i64 0, .int .i64 0, .int .i64 0, .int .i64 0, .int .i64 0, .int .i64 0, .string ⟨#[]⟩, .int .i64 0, .int .u32 0, .slice none 0 0, .int .i64 0, .slice none 0 0, .slice none 0 0, .int .i64 0, .slice none 0 0, .slice none 0 0, .slice none 0 0], .agg #[.int .i64 0, .int .i64 0, .int .i64 0, .int .i64 0, .int .i64 0, .int .i64 0, .int .i64 0, .int .i64 0, .string ⟨#[]⟩, .int .i64 0, .int .u32 0, .slice none 0 0, .int .i64 0, .slice none 0 0, .slice none 0 0, .int .i64 0, .slice none 0 0, .slice none 0 0, .slice none 0 0]] x fun e w' => e = .returned (.bool true) ∧ Below x.heap.size x w' :=
  sameMsg_self rm0 rm0 x (rm0_at x) (rm0_at x) rfl sndMg0

theorem encMg_nine (m : Pm) : 9 ≤ (encMg m).length := by
  have num : ∀ z, 0 < (Pk.num z).length := fun z => (Pk.num_len z).1
  have n1 := num m.kind
  have n2 := num m.frm
  have n3 := num m.to
  have n4 := num m.epoch
  have n5 := num m.e
  unfold encMg bodM encTM Pm.tup
  rw [List.length_append, be4_len, List.length_cons]
  simp only [enc2_len]
  omega

set_option maxRecDepth 100000 in
set_option maxHeartbeats 8000000 in
theorem msgTurned_nat (r : Rm) (p t : Nat) (w : World) (h : MsgAt w r) (hp : p < 65536) (ht : t < 4294967296) : Calls Try.prog 5 #[.agg r.cells, .int .u16 (p : Int), .int .u32 (t : Int)] w fun e w' => e = .returned (.bool true) ∧ Below w.heap.size w w' := by
  show Calls Try.prog 5 #[.agg #[.int .i64 r.m.kind, .int .i64 r.m.frm, .int .i64 r.m.to, .int .i64 r.m.epoch, .int .i64 r.m.ent.seq, .int .i64 r.m.ent.client, .int .i64 r.m.ent.num, .int .i64 r.m.ent.op, .string (strB r.m.ent.key), .int .i64 r.m.ent.size, .int .u32 (r.m.ent.sum : Int), .slice r.loc r.el r.c, .int .i64 r.m.e, .slice r.fa r.fl r.fc, .slice r.ka r.kl r.kc, .int .i64 r.m.cep, .slice r.ma r.ml r.mc, .slice r.sa r.sl r.sc, .slice r.na r.nl r.nc], .int .u16 (p : Int), .int .u32 (t : Int)] w _
  have HX0 : Hid (Box (w.alloc (.cells #[.int .i64 r.m.kind, .int .i64 r.m.frm, .int .i64 r.m.to, .int .i64 r.m.epoch, .int .i64 r.m.ent.seq, .int .i64 r.m.ent.client, .int .i64 r.m.ent.num, .int .i64 r.m.ent.op, .string (strB r.m.ent.key), .int .i64 r.m.ent.size, .int .u32 (r.m.ent.sum : Int), .slice r.loc r.el r.c, .int .i64 r.m.e, .slice r.fa r.fl r.fc, .slice r.ka r.kl r.kc, .int .i64 r.m.cep, .slice r.ma r.ml r.mc, .slice r.sa r.sl r.sc, .slice r.na r.nl r.nc] 35)) w.heap.size r.cells) := box_new w r.cells 35 _ rfl
  have E0 : Hid (Ext w (w.alloc (.cells #[.int .i64 r.m.kind, .int .i64 r.m.frm, .int .i64 r.m.to, .int .i64 r.m.epoch, .int .i64 r.m.ent.seq, .int .i64 r.m.ent.client, .int .i64 r.m.ent.num, .int .i64 r.m.ent.op, .string (strB r.m.ent.key), .int .i64 r.m.ent.size, .int .u32 (r.m.ent.sum : Int), .slice r.loc r.el r.c, .int .i64 r.m.e, .slice r.fa r.fl r.fc, .slice r.ka r.kl r.kc, .int .i64 r.m.cep, .slice r.ma r.ml r.mc, .slice r.sa r.sl r.sc, .slice r.na r.nl r.nc] 35))) := below_one w _
  have HM0 := Lib.hid (h.below E0.out)
  have HWF := Lib.hid h.wf
  clear h
  go_enter Try.func5, Try.ntmps5
  go_wp2_with (first | refine wpList_ldM _ _ _ rfl rfl rfl rfl HX0.out ?_ | (refine wpList_ung (by rfl) ?_; refine wpList_ldM _ _ _ rfl rfl rfl rfl HX0.out ?_))
  generalize (w.alloc (.cells #[.int .i64 r.m.kind, .int .i64 r.m.frm, .int .i64 r.m.to, .int .i64 r.m.epoch, .int .i64 r.m.ent.seq, .int .i64 r.m.ent.client, .int .i64 r.m.ent.num, .int .i64 r.m.ent.op, .string (strB r.m.ent.key), .int .i64 r.m.ent.size, .int .u32 (r.m.ent.sum : Int), .slice r.loc r.el r.c, .int .i64 r.m.e, .slice r.fa r.fl r.fc, .slice r.ka r.kl r.kc, .int .i64 r.m.cep, .slice r.ma r.ml r.mc, .slice r.sa r.sl r.sc, .slice r.na r.nl r.nc] 35)) = w0 at *
  refine (light_any r _).mono ?_
  rintro e w1 ⟨bb, rfl, hb⟩
  have E1 := Lib.hid (E0.out.trans hb)
  have HX1 := Lib.hid (HX0.out.below hb)
  have HM1 := Lib.hid (HM0.out.below hb)
  clear hb E0 HX0 HM0
  cases bb
  · go_wp2_with fail
    refine (awake12 _).mono ?_
    rintro e w2 ⟨rfl, hb⟩
    have E2 := Lib.hid (E1.out.trans hb)
    clear hb E1 
    go_wp2
    go_ret
    exact ⟨rfl, E2.out⟩
  by_cases ht0 : t = 0
  · have hd2 : ((t : Int) == 0) = true := by simp; omega
    clear ht0
    go_wp2_with fail
    refine (awake12 _).mono ?_
    rintro e w2 ⟨rfl, hb⟩
    have E2 := Lib.hid (E1.out.trans hb)
    clear hb E1 
    go_wp2
    go_ret
    exact ⟨rfl, E2.out⟩
  have hd2 : ((t : Int) == 0) = false := by simp; omega
  go_wp2_with (first | refine wpList_ldM _ _ _ rfl rfl rfl rfl HX1.out ?_ | (refine wpList_ung (by rfl) ?_; refine wpList_ldM _ _ _ rfl rfl rfl rfl HX1.out ?_))
  cases hs : sndMg r.m
  · have HN := Lib.hid hs
    clear hs
    refine (encMsg_no r _ HM1.out HN.out).mono ?_
    rintro e w2 ⟨rfl, hb⟩
    have E2 := Lib.hid (E1.out.trans hb)
    clear hb E1 
    go_wp2_with fail
    refine (awake12 _).mono ?_
    rintro e w3 ⟨rfl, hb⟩
    have E3 := Lib.hid (E2.out.trans hb)
    clear hb E2 
    go_wp2
    go_ret
    exact ⟨rfl, E3.out⟩
  · have HY := Lib.hid hs
    clear hs
    have HTN : Hid (∀ i, i + 8 ≤ (encMg r.m).length → okMg (trn (encMg r.m) i t 4) = false) := fun i hi => okMg_turned HWF.out HY.out i t hi ht ht0
    have hq9 := encMg_nine r.m
    have hqm := (encMg_len (sndMg_is HY.out)).2
    refine (encMsg_yes r _ HM1.out HY.out).mono ?_
    rintro e w2 ⟨g, c, rfl, ho, hb⟩
    have HO0 : Hid (OwnB w2 w.heap.size g c (trn (encMg r.m) 0 t 0)) := ho.base E1.out.size
    have E2 : Hid (Below w.heap.size w w2) := E1.out.trans hb
    clear ho hb E1 HX1 HM1
    generalize encMg r.m = EM at *
    obtain ⟨q, hq⟩ : ∃ q, EM.length = q := ⟨_, rfl⟩
    rw [hq] at hq9 hqm HTN ⊢
    have HQ := Lib.hid hq
    clear hq
    have d9 : decide ((q : Int) < 9) = false := by simp; omega
    have hI : (p : Int) % ((q : Int) - 3) = ((p % (q - 3) : Nat) : Int) := by rw [show (q : Int) - 3 = ((q - 3 : Nat) : Int) by omega]; exact (Int.natCast_emod p (q - 3)).symm
    have hI4 : p % (q - 3) + 4 ≤ q := by have := Nat.mod_lt p (show q - 3 > 0 by omega); omega
    go_upto_region 7 with fail
    rw [hI]
    clear hI
    generalize p % (q - 3) = I at hI4 ⊢
    have HO : Hid (OwnB w2 w.heap.size g c (trn EM I t 0)) := HO0.out
    clear HO0
    go_wp2
    go_loopw [10] (fun i ws => ∃ k : Nat, k ≤ 4 ∧ i = .int .i64 k ∧ Hid (OwnB ws w.heap.size g c (trn EM I t k)) ∧ Hid (Below w.heap.size w ws)) (fun i _ => 4 - (intOf i).toNat)
    case atStart => exact ⟨0, Nat.zero_le _, rfl, HO, E2⟩
    case round =>
      clear HO E2
      obtain ⟨k, hk, rfl, hO, hB⟩ := hrel
      by_cases hlt : k < 4
      · have hlen := trn_len EM I t k
        have hck := hO.out.cell (I + k) (by rw [hlen, HQ.out]; omega)
        have hfz := hO.out.frozen (I + k)
        have hgl := hO.out.lt
        have hc := bytes_get _ (I + k) hO.out.byte
        have hx := Gf.x_lt _ (t / 2 ^ (8 * k) % 2 ^ 8) hc (by omega)
        have HST := Lib.hid (hO.out.stored (I + k) _ hx)
        have HT : Hid (trn EM I t (k + 1) = (trn EM I t k).set (I + k) ((trn EM I t k).getD (I + k) 0 ^^^ t / 2 ^ (8 * k) % 2 ^ 8)) := rfl
        have HX : Hid (bits BinOp.xor IntKind.u8 (((trn EM I t k).getD (I + k) 0 : Nat) : Int) ((t : Int) / 2 ^ (8 * k) % 256) = (((trn EM I t k).getD (I + k) 0 ^^^ t / 2 ^ (8 * k) % 2 ^ 8 : Nat) : Int)) := by
          show _ = _
          rw [← u8_xor_nat _ (t / 2 ^ (8 * k) % 2 ^ 8) hc (by omega)]
          simp
        clear hx hc hlen
        generalize (trn EM I t k).getD (I + k) 0 = cx at *
        go_wp2
        rw [HX.out]
        refine ⟨⟨k + 1, by omega, by go_num, ?_, ?_⟩, by simp [intOf]; omega⟩
        · rw [HT.out]; exact HST.out.1
        · exact HST.out.2.below hB.out hB.out.size (by simp; omega)
      · have hk4 : k = 4 := by omega
        subst hk4
        have HSC : Hid (SeenAt wr (some ⟨g, 0, none⟩) c (trn EM I t 4)) := hO.out.seenAt
        have HLC : Hid ((trn EM I t 4).length = q) := by show _ = _; rw [trn_len]; exact HQ.out
        have HNO : Hid (I + 8 ≤ q → okMg (trn EM I t 4) = false) := HTN.out I
        clear hO HTN HQ
        generalize trn EM I t 4 = tr at *
        by_cases hI8 : I + 8 ≤ q
        · have HN := Lib.hid (HNO.out hI8)
          have d8 : decide ((q : Int) - 8 < (I : Int)) = false := by simp; omega
          go_wp2_with fail
          refine (decMg_no _ _ _ tr _ HLC.out (by omega) HSC.out HN.out).mono ?_
          rintro e w3 ⟨rfl, hb⟩
          have E3 : Hid (Below w.heap.size w w3) := hB.out.trans (hb.mono hB.out.size)
          clear hb
          go_wp2_with (refine wpList_st 35 19 w3.heap.size 0 35 #[.int .i64 0, .int .i64 0, .int .i64 0, .int .i64 0, .int .i64 0, .int .i64 0, .int .i64 0, .int .i64 0, .string ⟨#[]⟩, .int .i64 0, .int .u32 0, .slice none 0 0, .int .i64 0, .slice none 0 0, .slice none 0 0, .int .i64 0, .slice none 0 0, .slice none 0 0, .slice none 0 0] #[.int .i64 0, .int .i64 0, .int .i64 0, .int .i64 0, .int .i64 0, .int .i64 0, .int .i64 0, .int .i64 0, .string ⟨#[]⟩, .int .i64 0, .int .u32 0, .slice none 0 0, .int .i64 0, .slice none 0 0, .slice none 0 0, .int .i64 0, .slice none 0 0, .slice none 0 0, .slice none 0 0] #[.int .i64 0, .int .i64 0, .int .i64 0, .int .i64 0, .int .i64 0, .int .i64 0, .int .i64 0, .int .i64 0, .string ⟨#[]⟩, .int .i64 0, .int .u32 0, .slice none 0 0, .int .i64 0, .slice none 0 0, .slice none 0 0, .int .i64 0, .slice none 0 0, .slice none 0 0, .slice none 0 0] _ _ rfl rfl rfl rfl rfl (by kernel_rfl) rfl (bx_new w3 #[.int .i64 0, .int .i64 0, .int .i64 0, .int .i64 0, .int .i64 0, .int .i64 0, .int .i64 0, .int .i64 0, .string ⟨#[]⟩, .int .i64 0, .int .u32 0, .slice none 0 0, .int .i64 0, .slice none 0 0, .slice none 0 0, .int .i64 0, .slice none 0 0, .slice none 0 0, .slice none 0 0] 35) (by simp) zero_ones rfl ?_; intro w4 hx hc; have hb : Below w3.heap.size w3 w4 := hc.below (below_one w3 _) (by simp) (by simp); have HX4 := Lib.hid hx.box; have E4 : Hid (Below w.heap.size w w4) := E3.out.trans (hb.mono E3.out.size); clear hb hx hc E3)
          refine (awake12 _).mono ?_
          rintro e w5 ⟨rfl, hb⟩
          have HX5 := Lib.hid (HX4.out.below hb)
          have E5 : Hid (Below w.heap.size w w5) := E4.out.trans (hb.mono E4.out.size)
          clear hb HX4 E4
          go_wp2_with (first | refine wpList_ldM _ _ _ rfl rfl rfl rfl HX5.out ?_ | (refine wpList_ung (by rfl) ?_; refine wpList_ldM _ _ _ rfl rfl rfl rfl HX5.out ?_))
          refine (sameMsg_nought _).mono ?_
          rintro e w6 ⟨rfl, hb⟩
          have E6 : Hid (Below w.heap.size w w6) := E5.out.trans (hb.mono E5.out.size)
          clear hb
          go_wp2
          go_ret
          exact ⟨rfl, E6.out⟩
        · have d8 : decide ((q : Int) - 8 < (I : Int)) = true := by simp; omega
          go_wp2_with fail
          refine (decMg_any _ _ _ tr _ HLC.out (by omega) HSC.out).mono ?_
          rintro e w3 (⟨_, rfl, hb⟩ | ⟨_, r', _, rfl, _, hb⟩)
          · have E3 : Hid (Below w.heap.size w w3) := hB.out.trans (hb.mono hB.out.size)
            clear hb
            go_wp2_with (refine wpList_st 35 19 w3.heap.size 0 35 #[.int .i64 0, .int .i64 0, .int .i64 0, .int .i64 0, .int .i64 0, .int .i64 0, .int .i64 0, .int .i64 0, .string ⟨#[]⟩, .int .i64 0, .int .u32 0, .slice none 0 0, .int .i64 0, .slice none 0 0, .slice none 0 0, .int .i64 0, .slice none 0 0, .slice none 0 0, .slice none 0 0] #[.int .i64 0, .int .i64 0, .int .i64 0, .int .i64 0, .int .i64 0, .int .i64 0, .int .i64 0, .int .i64 0, .string ⟨#[]⟩, .int .i64 0, .int .u32 0, .slice none 0 0, .int .i64 0, .slice none 0 0, .slice none 0 0, .int .i64 0, .slice none 0 0, .slice none 0 0, .slice none 0 0] #[.int .i64 0, .int .i64 0, .int .i64 0, .int .i64 0, .int .i64 0, .int .i64 0, .int .i64 0, .int .i64 0, .string ⟨#[]⟩, .int .i64 0, .int .u32 0, .slice none 0 0, .int .i64 0, .slice none 0 0, .slice none 0 0, .int .i64 0, .slice none 0 0, .slice none 0 0, .slice none 0 0] _ _ rfl rfl rfl rfl rfl (by kernel_rfl) rfl (bx_new w3 #[.int .i64 0, .int .i64 0, .int .i64 0, .int .i64 0, .int .i64 0, .int .i64 0, .int .i64 0, .int .i64 0, .string ⟨#[]⟩, .int .i64 0, .int .u32 0, .slice none 0 0, .int .i64 0, .slice none 0 0, .slice none 0 0, .int .i64 0, .slice none 0 0, .slice none 0 0, .slice none 0 0] 35) (by simp) zero_ones rfl ?_; intro w4 hx hc; have hb : Below w3.heap.size w3 w4 := hc.below (below_one w3 _) (by simp) (by simp); have E4 : Hid (Below w.heap.size w w4) := E3.out.trans (hb.mono E3.out.size); clear hb hx hc E3)
            refine (awake12 _).mono ?_
            rintro e w5 ⟨rfl, hb⟩
            have E5 : Hid (Below w.heap.size w w5) := E4.out.trans (hb.mono E4.out.size)
            clear hb
            go_wp2
            go_ret
            exact ⟨rfl, E5.out⟩
          · have E3 : Hid (Below w.heap.size w w3) := hB.out.trans (hb.mono hB.out.size)
            clear hb
            go_wp2_with (refine wpList_st 35 19 w3.heap.size 0 35 r'.cells #[.int .i64 0, .int .i64 0, .int .i64 0, .int .i64 0, .int .i64 0, .int .i64 0, .int .i64 0, .int .i64 0, .string ⟨#[]⟩, .int .i64 0, .int .u32 0, .slice none 0 0, .int .i64 0, .slice none 0 0, .slice none 0 0, .int .i64 0, .slice none 0 0, .slice none 0 0, .slice none 0 0] r'.cells _ _ rfl rfl rfl rfl rfl (by kernel_rfl) rfl (bx_new w3 #[.int .i64 0, .int .i64 0, .int .i64 0, .int .i64 0, .int .i64 0, .int .i64 0, .int .i64 0, .int .i64 0, .string ⟨#[]⟩, .int .i64 0, .int .u32 0, .slice none 0 0, .int .i64 0, .slice none 0 0, .slice none 0 0, .int .i64 0, .slice none 0 0, .slice none 0 0, .slice none 0 0] 35) (by simp) (cells_ones _) rfl ?_; intro w4 hx hc; have hb : Below w3.heap.size w3 w4 := hc.below (below_one w3 _) (by simp) (by simp); have E4 : Hid (Below w.heap.size w w4) := E3.out.trans (hb.mono E3.out.size); clear hb hx hc E3)
            refine (awake12 _).mono ?_
            rintro e w5 ⟨rfl, hb⟩
            have E5 : Hid (Below w.heap.size w w5) := E4.out.trans (hb.mono E4.out.size)
            clear hb
            go_wp2
            go_ret
            exact ⟨rfl, E5.out⟩

theorem msgTurned_walk (r : Rm) (a1 a2 : Int) (w : World) (h : MsgAt w r) (w1 : (Lit.int .u16 a1).wf = true) (w2 : (Lit.int .u32 a2).wf = true) :
    Calls Try.prog 5 #[.agg r.cells, .int .u16 a1, .int .u32 a2] w fun e w' => e = .returned (.bool true) ∧ Below w.heap.size w w' := by
  have e1 : 0 ≤ a1 ∧ a1 ≤ 65535 := by simpa [Lit.wf, IntKind.min, IntKind.max, IntKind.signed, IntKind.bits] using w1
  have e2 : 0 ≤ a2 ∧ a2 ≤ 4294967295 := by simpa [Lit.wf, IntKind.min, IntKind.max, IntKind.signed, IntKind.bits] using w2
  obtain ⟨p, rfl⟩ : ∃ p : Nat, a1 = (p : Int) := ⟨a1.toNat, by omega⟩
  obtain ⟨t, rfl⟩ : ∃ t : Nat, a2 = (t : Int) := ⟨a2.toNat, by omega⟩
  exact msgTurned_nat r p t w h (by omega) (by omega)

end Go.Proofs.Ytggjpjpemgpeeaa
