/-
  The walk of the law NetFull.
-/
import Derived.Test.YtggjpjpemgpeeaaNt13
namespace Go.Proofs.Ytggjpjpemgpeeaa
open Go.RowKit

set_option maxRecDepth 100000 in
set_option maxHeartbeats 4000000 in
theorem netFull_walk (a : Int) (b : Bool) (w : World) (ha : (Lit.int .u8 a).wf = true) : Calls Try.prog 8 #[.int .u8 a, .bool b] w fun e w' => e = .returned (.bool true) ∧ Below w.heap.size w w' := by
  have hr : 0 ≤ a ∧ a ≤ 255 := by simpa [Lit.wf, IntKind.min, IntKind.max, IntKind.signed, IntKind.bits] using ha
  obtain ⟨n, rfl⟩ : ∃ n : Nat, a = (n : Int) := ⟨a.toNat, by omega⟩
  have hn : n ≤ 255 := by omega
  clear ha hr
  obtain ⟨f, hf⟩ : ∃ f : Int, f = (n : Int) % 16 := ⟨_, rfl⟩
  have hf5 : -5 ≤ f ∧ f ≤ 15 := by omega
  have HF : Hid ((n : Int) % 16 = f) := hf.symm
  have HI : Hid (I64 f) := by constructor <;> omega
  have HS : Hid (sndMg (askR f).m = true) := ask_snd f hf5
  obtain ⟨p, hp⟩ : ∃ p, posI (n : Int) 1024 = p := ⟨_, rfl⟩
  have HP := Lib.hid hp
  have HPL : Hid (p < 1024) := by show _ < _; rw [← hp]; exact posI_lt _ _ (by omega)
  clear hf hf5 hp
  go_enter Try.func8, Try.ntmps8
  go_wp2_with fail
  refine (ntNew_any _).mono ?_
  rintro e w1 ⟨R, N, rfl, hnn, hb⟩
  have H1 : Hid (NS w w1 R N [] []) := ⟨hb, hnn⟩
  clear hnn hb
  go_wp2_with (refine wpList_st 35 19 (w1.heap.size) 0 35 (askR ((n : Int) % 16)).cells #[.int .i64 0, .int .i64 0, .int .i64 0, .int .i64 0, .int .i64 0, .int .i64 0, .int .i64 0, .int .i64 0, .string ⟨#[]⟩, .int .i64 0, .int .u32 0, .slice none 0 0, .int .i64 0, .slice none 0 0, .slice none 0 0, .int .i64 0, .slice none 0 0, .slice none 0 0, .slice none 0 0] (askR ((n : Int) % 16)).cells _ _ rfl rfl rfl rfl rfl (by kernel_rfl) rfl (bx_new w1 #[.int .i64 0, .int .i64 0, .int .i64 0, .int .i64 0, .int .i64 0, .int .i64 0, .int .i64 0, .int .i64 0, .string ⟨#[]⟩, .int .i64 0, .int .u32 0, .slice none 0 0, .int .i64 0, .slice none 0 0, .slice none 0 0, .int .i64 0, .slice none 0 0, .slice none 0 0, .slice none 0 0] 35) (by simp) (cells_ones _) rfl ?_; intro w2 hx2 hc2; have hb2 : Below w1.heap.size w1 w2 := hc2.below (below_one w1 _) (by simp) (by simp); rw [HF.out] at hx2; have HX2 : Hid (BxN w2 w1.heap.size (askR f).cells N) := BxN.new H1.out hx2; have H2 := Lib.hid (H1.out.below hb2); clear hx2 hc2 hb2 H1)
  obtain ⟨B, hB⟩ : ∃ B, w1.heap.size = B := ⟨_, rfl⟩
  rw [hB] at HX2 ⊢
  clear hB
  go_loopw [7] (fun i ws => ∃ (k : Nat) (N : List Nat), k ≤ 1024 ∧ i = .int .i64 k ∧ Hid (NS w ws R N (List.replicate k (askR f).m) []) ∧ Hid (BxN ws B (askR f).cells N)) (fun i _ => 1024 - (intOf i).toNat)
  case atStart => exact ⟨0, N, Nat.zero_le _, rfl, H2, HX2⟩
  case round =>
    obtain ⟨k, N2, hk, rfl, HA, HXA⟩ := hrel
    by_cases hlt : k < 1024
    · go_wp2_with (first | refine wpList_ldM _ _ _ rfl rfl rfl rfl HXA.out.box ?_ | (refine wpList_ung (by rfl) ?_; refine wpList_ldM _ _ _ rfl rfl rfl rfl HXA.out.box ?_))
      refine (send_yes HA.out.nt (askR f) (ask_at _ _ HI.out) HS.out).mono ?_
      intro e w3 hr
      obtain ⟨rfl, N3, h3, hm⟩ := HA.out.send hr (by simp; omega)
      have H3 := Lib.hid h3
      have HX3 := Lib.hid (HXA.out.mv hm)
      clear h3 hm hr HA HXA
      go_wp2
      go_round
      case rel => exact ⟨k + 1, N3, by omega, by go_num, by rw [List.replicate_succ']; exact H3, HX3⟩
      case measure => simp [intOf]; omega
    · obtain rfl : k = 1024 := by omega
      clear H2 HX2 hk hlt
      cases b
      · go_wp2_with (first | refine wpList_ldM _ _ _ rfl rfl rfl rfl HXA.out.box ?_ | (refine wpList_ung (by rfl) ?_; refine wpList_ldM _ _ _ rfl rfl rfl rfl HXA.out.box ?_))
        refine (send_yes HA.out.nt (askR f) (ask_at _ _ HI.out) HS.out).mono ?_
        intro e w4 hr
        obtain ⟨rfl, N4, h3, hm⟩ := HA.out.full hr (by simp)
        have HY := Lib.hid h3
        have HZ := Lib.hid (HXA.out.mv hm)
        clear h3 hm hr HA HXA
        go_wp2_with fail
        obtain ⟨gaT, oT, hAT⟩ := HY.out.nt
        have HAT := Lib.hid hAT
        clear hAT
        refine (ntLen_any HAT.out 1024 (by simp)).mono ?_
        rintro e wL ⟨rfl, rfl⟩
        clear HAT
        go_wp2_with fail
        refine (awake13 _).mono ?_
        rintro e wa ⟨rfl, hb⟩
        have Ha := Lib.hid (HY.out.below hb)
        have HXa := Lib.hid (HZ.out.below hb)
        clear hb HY HZ
        go_wp2_with fail
        refine (drop_any Ha.out.nt 1024 (by simp) (by omega) (n : Int) p HP.out).mono ?_
        rintro e wb ⟨rfl, Nb, hN, hM⟩
        have Hb := Lib.hid (Ha.out.mv hN hM)
        have HXb := Lib.hid (HXa.out.mv hM)
        have HLb : Hid (((List.replicate 1024 (askR f).m).eraseIdx p).length = 1023) := by show _ = _; rw [List.length_eraseIdx_of_lt (by simp; exact HPL.out)]; simp
        clear hN hM Ha HXa
        go_wp2_with (first | refine wpList_ldM _ _ _ rfl rfl rfl rfl HXb.out.box ?_ | (refine wpList_ung (by rfl) ?_; refine wpList_ldM _ _ _ rfl rfl rfl rfl HXb.out.box ?_))
        refine (send_yes Hb.out.nt (askR f) (ask_at _ _ HI.out) HS.out).mono ?_
        intro e wc hr
        obtain ⟨rfl, Nc, h3, hm⟩ := Hb.out.send hr (by rw [HLb.out]; omega)
        have Hc := Lib.hid h3
        have HXc := Lib.hid (HXb.out.mv hm)
        clear h3 hm hr Hb HXb
        go_wp2_with (first | refine wpList_ldM _ _ _ rfl rfl rfl rfl HXc.out.box ?_ | (refine wpList_ung (by rfl) ?_; refine wpList_ldM _ _ _ rfl rfl rfl rfl HXc.out.box ?_))
        refine (send_yes Hc.out.nt (askR f) (ask_at _ _ HI.out) HS.out).mono ?_
        intro e wd hr
        obtain ⟨rfl, Nd, h3, hm⟩ := Hc.out.full hr (by rw [List.length_append, HLb.out]; rfl)
        have Hd := Lib.hid h3
        have HXd := Lib.hid (HXc.out.mv hm)
        clear h3 hm hr Hc HXc
        go_wp2
        go_ret
        exact ⟨rfl, Hd.out.bel⟩
      · go_wp2_with fail
        refine (dup_any HA.out.nt 1024 (by simp) (by omega) 5 5 (by decide)).mono ?_
        intro e w4 hr
        obtain ⟨rfl, N4, h3, hm⟩ := HA.out.full hr (by simp)
        have HY := Lib.hid h3
        have HZ := Lib.hid (HXA.out.mv hm)
        clear h3 hm hr HA HXA
        go_wp2_with fail
        obtain ⟨gaT, oT, hAT⟩ := HY.out.nt
        have HAT := Lib.hid hAT
        clear hAT
        refine (ntLen_any HAT.out 1024 (by simp)).mono ?_
        rintro e wL ⟨rfl, rfl⟩
        clear HAT
        go_wp2_with fail
        refine (awake13 _).mono ?_
        rintro e wa ⟨rfl, hb⟩
        have Ha := Lib.hid (HY.out.below hb)
        have HXa := Lib.hid (HZ.out.below hb)
        clear hb HY HZ
        go_wp2_with fail
        refine (drop_any Ha.out.nt 1024 (by simp) (by omega) (n : Int) p HP.out).mono ?_
        rintro e wb ⟨rfl, Nb, hN, hM⟩
        have Hb := Lib.hid (Ha.out.mv hN hM)
        have HXb := Lib.hid (HXa.out.mv hM)
        have HLb : Hid (((List.replicate 1024 (askR f).m).eraseIdx p).length = 1023) := by show _ = _; rw [List.length_eraseIdx_of_lt (by simp; exact HPL.out)]; simp
        clear hN hM Ha HXa
        go_wp2_with (first | refine wpList_ldM _ _ _ rfl rfl rfl rfl HXb.out.box ?_ | (refine wpList_ung (by rfl) ?_; refine wpList_ldM _ _ _ rfl rfl rfl rfl HXb.out.box ?_))
        refine (send_yes Hb.out.nt (askR f) (ask_at _ _ HI.out) HS.out).mono ?_
        intro e wc hr
        obtain ⟨rfl, Nc, h3, hm⟩ := Hb.out.send hr (by rw [HLb.out]; omega)
        have Hc := Lib.hid h3
        have HXc := Lib.hid (HXb.out.mv hm)
        clear h3 hm hr Hb HXb
        go_wp2_with (first | refine wpList_ldM _ _ _ rfl rfl rfl rfl HXc.out.box ?_ | (refine wpList_ung (by rfl) ?_; refine wpList_ldM _ _ _ rfl rfl rfl rfl HXc.out.box ?_))
        refine (send_yes Hc.out.nt (askR f) (ask_at _ _ HI.out) HS.out).mono ?_
        intro e wd hr
        obtain ⟨rfl, Nd, h3, hm⟩ := Hc.out.full hr (by rw [List.length_append, HLb.out]; rfl)
        have Hd := Lib.hid h3
        have HXd := Lib.hid (HXc.out.mv hm)
        clear h3 hm hr Hc HXc
        go_wp2
        go_ret
        exact ⟨rfl, Hd.out.bel⟩

end Go.Proofs.Ytggjpjpemgpeeaa
