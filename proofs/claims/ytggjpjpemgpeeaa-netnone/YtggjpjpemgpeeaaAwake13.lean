/-
  The law's state of a network; its awake; its light.
-/
import Derived.Test.YtggjpjpemgpeeaaNtC
import Derived.Test.YtggjpjpemgpeeaaWalksI1
namespace Go.Proofs.Ytggjpjpemgpeeaa
open Go.RowKit

/-- The state of a law behind w0: a network made behind it. -/
structure NS (w0 w : World) (R : Nat) (N : List Nat) (ms : List Pm) (ks : List (Int × Int)) : Prop where
  bel : Below w0.heap.size w0 w
  nt : Nt w w0.heap.size R N ms ks

/-- A message's box that is none of a network's blocks. -/
structure BxN (w : World) (B : Nat) (C : Array Value) (N : List Nat) : Prop where
  box : Box w B C
  off : B ∉ N
  lt : B < w.heap.size

section
variable {w0 w w' : World} {R B : Nat} {C : Array Value} {N N' : List Nat} {ms ms' : List Pm} {ks ks' : List (Int × Int)}

theorem NS.mv (h : NS w0 w R N ms ks) (hN : Nt w' w0.heap.size R N' ms' ks') (hM : Mv w w' N N') : NS w0 w' R N' ms' ks' := ⟨(hM.below h.bel fun g hg => (h.nt.nLt g hg).1).1, hN⟩

theorem NS.below (h : NS w0 w R N ms ks) (hb : Below w.heap.size w w') : NS w0 w' R N ms ks := ⟨h.bel.trans (hb.mono h.bel.size), h.nt.below hb⟩

theorem off_mv (hB : B ∉ N) (hlt : B < w.heap.size) (hM : Mv w w' N N') : B ∉ N' := fun e => by
  rcases hM.now B e with h | h
  · exact hB h
  · omega

theorem BxN.mv (h : BxN w B C N) (hM : Mv w w' N N') : BxN w' B C N' := ⟨fun k v hk => hM.chg.cell (h.box k v hk) h.off, off_mv h.off h.lt hM, Nat.lt_of_lt_of_le h.lt hM.chg.size⟩

theorem BxN.below (h : BxN w B C N) (hb : Below w.heap.size w w') : BxN w' B C N := ⟨h.box.below hb, h.off, Nat.lt_of_lt_of_le h.lt hb.size⟩

/-- A box made just now. -/
theorem BxN.new {t : TypeId} (h : NS w0 w R N ms ks) (hx : Bx w' w.heap.size t C) : BxN w' w.heap.size C N := ⟨hx.box, fun e => by have := (h.nt.nLt _ e).2; omega, (Array.getElem?_eq_some_iff.1 hx).1⟩

theorem NS.send (h : NS w0 w R N ms ks) {m : Pm} {e : Ending} (hr : RetSd w w0.heap.size R N ms ks m e w') (hl : ms.length < 1024) : e = .returned (.int .i64 0) ∧ ∃ N', NS w0 w' R N' (ms ++ [m]) ks ∧ Mv w w' N N' := by
  rcases hr with ⟨_, he, N', hN, hM⟩ | ⟨h2, _⟩
  · exact ⟨he, N', h.mv hN hM, hM⟩
  · omega

theorem NS.full (h : NS w0 w R N ms ks) {m : Pm} {e : Ending} (hr : RetSd w w0.heap.size R N ms ks m e w') (hl : ms.length = 1024) : e = .returned (.int .i64 5) ∧ ∃ N', NS w0 w' R N' ms ks ∧ Mv w w' N N' := by
  rcases hr with ⟨h2, _⟩ | ⟨_, he, N', hN, hM⟩
  · omega
  · exact ⟨he, N', h.mv hN hM, hM⟩

end

/-- A message from f to the master that asks. -/
def askM (f : Int) : Pm := ⟨14, f, -1, 0, pe0, 0, [], [], 0, [], [], []⟩
def askR (f : Int) : Rm := ⟨askM f, [], none, 0, none, 0, none, 0, none, 0, none, 0, none, 0, 0, 0, 0, 0, 0, 0⟩

theorem ask_snd (f : Int) (h : -5 ≤ f ∧ f ≤ 15) : sndMg (askM f) = true := by
  have e : sndMg (askM f) = (rng f (-5) 15 && sndMg (askM 0)) := by
    unfold sndMg sndA askM
    cases rng f (-5) 15
    · simp [rng]
    · simp [rng]
      rfl
  rw [e, show sndMg (askM 0) = true by decide]
  unfold rng
  simp
  exact h

theorem ask_wf (f : Int) (h : I64 f) : (askM f).Wf :=
  ⟨(by constructor <;> decide : I64 14), h, (by constructor <;> decide : I64 (-1)), (by constructor <;> decide : I64 0), (by constructor <;> decide : I64 0), (by constructor <;> decide : I64 0), by simp [askM], pm0_wf.ent, by simp [askM], by simp [askM], by simp [askM], by simp [askM]⟩

theorem ask_at (w : World) (f : Int) (h : I64 f) : MsgAt w (askR f) :=
  ⟨SeenAt.nil (Nat.zero_le _), FrsAt.nil (Nat.zero_le _), StrAt.nil (Nat.zero_le _), IntsAt.nil (Nat.zero_le _), SrcAt.nil (Nat.zero_le _), EnsAt.nil (Nat.zero_le _), rfl, rfl, rfl, rfl, rfl, rfl, rfl, ask_wf f h⟩

theorem pm0_unsound : sndMg pm0 = false := by decide

set_option maxRecDepth 100000 in
set_option maxHeartbeats 1000000 in
theorem light13_any (r : Rm) (w : World) : Calls Try.prog 30 #[.agg r.cells] w (RetBl w) := by
  show Calls Try.prog 30 #[.agg #[.int .i64 r.m.kind, .int .i64 r.m.frm, .int .i64 r.m.to, .int .i64 r.m.epoch, .int .i64 r.m.ent.seq, .int .i64 r.m.ent.client, .int .i64 r.m.ent.num, .int .i64 r.m.ent.op, .string (strB r.m.ent.key), .int .i64 r.m.ent.size, .int .u32 (r.m.ent.sum : Int), .slice r.loc r.el r.c, .int .i64 r.m.e, .slice r.fa r.fl r.fc, .slice r.ka r.kl r.kc, .int .i64 r.m.cep, .slice r.ma r.ml r.mc, .slice r.sa r.sl r.sc, .slice r.na r.nl r.nc]] w _
  have HB0 : Hid (Below w.heap.size w (w.alloc (.cells #[.int .i64 r.m.kind, .int .i64 r.m.frm, .int .i64 r.m.to, .int .i64 r.m.epoch, .int .i64 r.m.ent.seq, .int .i64 r.m.ent.client, .int .i64 r.m.ent.num, .int .i64 r.m.ent.op, .string (strB r.m.ent.key), .int .i64 r.m.ent.size, .int .u32 (r.m.ent.sum : Int), .slice r.loc r.el r.c, .int .i64 r.m.e, .slice r.fa r.fl r.fc, .slice r.ka r.kl r.kc, .int .i64 r.m.cep, .slice r.ma r.ml r.mc, .slice r.sa r.sl r.sc, .slice r.na r.nl r.nc] 35))) := below_one w _
  have HX0 : Hid (Box (w.alloc (.cells #[.int .i64 r.m.kind, .int .i64 r.m.frm, .int .i64 r.m.to, .int .i64 r.m.epoch, .int .i64 r.m.ent.seq, .int .i64 r.m.ent.client, .int .i64 r.m.ent.num, .int .i64 r.m.ent.op, .string (strB r.m.ent.key), .int .i64 r.m.ent.size, .int .u32 (r.m.ent.sum : Int), .slice r.loc r.el r.c, .int .i64 r.m.e, .slice r.fa r.fl r.fc, .slice r.ka r.kl r.kc, .int .i64 r.m.cep, .slice r.ma r.ml r.mc, .slice r.sa r.sl r.sc, .slice r.na r.nl r.nc] 35)) w.heap.size #[.int .i64 r.m.kind, .int .i64 r.m.frm, .int .i64 r.m.to, .int .i64 r.m.epoch, .int .i64 r.m.ent.seq, .int .i64 r.m.ent.client, .int .i64 r.m.ent.num, .int .i64 r.m.ent.op, .string (strB r.m.ent.key), .int .i64 r.m.ent.size, .int .u32 (r.m.ent.sum : Int), .slice r.loc r.el r.c, .int .i64 r.m.e, .slice r.fa r.fl r.fc, .slice r.ka r.kl r.kc, .int .i64 r.m.cep, .slice r.ma r.ml r.mc, .slice r.sa r.sl r.sc, .slice r.na r.nl r.nc]) := box_new w _ _ _ rfl
  obtain ⟨x0, x1, x2, x3, x4, x5, x6, x7, x8, x9, x10, x11, x12, x13, x14, x15, x16, x17, x18⟩ := box19 HX0.out
  by_cases h0 : (r.nl : Int) ≤ 10
  · have d0 : decide ((r.nl : Int) ≤ 10) = true := by simp; exact h0
    by_cases h1 : (r.kl : Int) ≤ 10
    · have d1 : decide ((r.kl : Int) ≤ 10) = true := by simp; exact h1
      by_cases h2 : (r.fl : Int) ≤ 20
      · have d2 : decide ((r.fl : Int) ≤ 20) = true := by simp; exact h2
        by_cases h3 : (r.sl : Int) ≤ 20
        · have d3 : decide ((r.sl : Int) ≤ 20) = true := by simp; exact h3
          by_cases h4 : (r.ml : Int) ≤ 20
          · have d4 : decide ((r.ml : Int) ≤ 20) = true := by simp; exact h4
            go_enter Try.func30, Try.ntmps30
            go_wp2
            go_ret
            exact ⟨_, rfl, HB0.out⟩
          · have d4 : decide ((r.ml : Int) ≤ 20) = false := by simp; omega
            go_enter Try.func30, Try.ntmps30
            go_wp2
            go_ret
            exact ⟨_, rfl, HB0.out⟩
        · have d3 : decide ((r.sl : Int) ≤ 20) = false := by simp; omega
          go_enter Try.func30, Try.ntmps30
          go_wp2
          go_ret
          exact ⟨_, rfl, HB0.out⟩
      · have d2 : decide ((r.fl : Int) ≤ 20) = false := by simp; omega
        go_enter Try.func30, Try.ntmps30
        go_wp2
        go_ret
        exact ⟨_, rfl, HB0.out⟩
    · have d1 : decide ((r.kl : Int) ≤ 10) = false := by simp; omega
      go_enter Try.func30, Try.ntmps30
      go_wp2
      go_ret
      exact ⟨_, rfl, HB0.out⟩
  · have d0 : decide ((r.nl : Int) ≤ 10) = false := by simp; omega
    go_enter Try.func30, Try.ntmps30
    go_wp2
    go_ret
    exact ⟨_, rfl, HB0.out⟩

set_option maxRecDepth 100000 in
set_option maxHeartbeats 4000000 in
theorem awake13 (w : World) : Calls Try.prog 24 #[] w fun e w' => e = .returned (.bool true) ∧ Below w.heap.size w w' := by
  have HI : Hid (I64 (-2)) := by constructor <;> decide
  have HI1 : Hid (I64 (-1)) := by constructor <;> decide
  have HS : Hid (sndMg (askR (-2)).m = true) := ask_snd (-2) ⟨by decide, by decide⟩
  have HSM : Hid (SndMg (askR (-2)).m) := sndMg_is HS.out
  have HLK : Hid (lkP (-1) (-2) = (-2, -1)) := by show _ = _; decide
  have HLK2 : Hid (lkP (-2) (-1) = (-2, -1)) := by show _ = _; decide
  have HLD : Hid (lkd (-1) (-2) = true) := by show _ = _; decide
  go_enter Try.func24, Try.ntmps24
  go_wp2_with fail
  refine (ntNew_any _).mono ?_
  rintro e w1 ⟨R, N, rfl, hn, hb⟩
  have H1 : Hid (NS w w1 R N [] []) := ⟨hb, hn⟩
  clear hn hb
  go_wp2_with (first | (refine wpList_st 35 19 (w1.heap.size) 0 35 (askR (-2)).cells #[.int .i64 0, .int .i64 0, .int .i64 0, .int .i64 0, .int .i64 0, .int .i64 0, .int .i64 0, .int .i64 0, .string ⟨#[]⟩, .int .i64 0, .int .u32 0, .slice none 0 0, .int .i64 0, .slice none 0 0, .slice none 0 0, .int .i64 0, .slice none 0 0, .slice none 0 0, .slice none 0 0] (askR (-2)).cells _ _ rfl rfl rfl rfl rfl (by kernel_rfl) rfl (bx_new w1 #[.int .i64 0, .int .i64 0, .int .i64 0, .int .i64 0, .int .i64 0, .int .i64 0, .int .i64 0, .int .i64 0, .string ⟨#[]⟩, .int .i64 0, .int .u32 0, .slice none 0 0, .int .i64 0, .slice none 0 0, .slice none 0 0, .int .i64 0, .slice none 0 0, .slice none 0 0, .slice none 0 0] 35) (by simp) (cells_ones _) rfl ?_; intro w2 hx2 hc2; have hb2 : Below w1.heap.size w1 w2 := hc2.below (below_one w1 _) (by simp) (by simp); have HX2 := Lib.hid (BxN.new H1.out hx2); have H2 := Lib.hid (H1.out.below hb2); clear hx2 hc2 hb2 H1) | refine wpList_ldM _ _ _ rfl rfl rfl rfl HX2.out.box ?_ | (refine wpList_ung (by rfl) ?_; refine wpList_ldM _ _ _ rfl rfl rfl rfl HX2.out.box ?_))
  refine (send_yes H2.out.nt (askR (-2)) (ask_at _ _ HI.out) HS.out).mono ?_
  intro e w3 hr
  obtain ⟨rfl, N3, h3, hm⟩ := H2.out.send hr (by simp)
  have H3 := Lib.hid h3
  have HX3 := Lib.hid (HX2.out.mv hm)
  clear h3 hm hr H2 HX2
  go_wp2_with fail
  refine (send_no R rm0 _ (rm0_at _) pm0_unsound).mono ?_
  rintro e w4 ⟨rfl, hb⟩
  have H4 := Lib.hid (H3.out.below hb)
  have HX4 := Lib.hid (HX3.out.below hb)
  clear hb H3 HX3
  go_wp2_with fail
  refine (cut_new H4.out.nt (-1) (-2) HLD.out (by simp)).mono ?_
  rintro e w5 ⟨rfl, N5, hN, hM⟩
  rw [HLK.out] at hN
  have H5 := Lib.hid (H4.out.mv hN hM)
  have HX5 := Lib.hid (HX4.out.mv hM)
  clear hN hM H4 HX4
  go_wp2_with fail
  refine (dlv_cut H5.out.nt 1 rfl (by omega) 0 0 (by decide) (by show lkP (-2) (-1) ∈ _; rw [HLK2.out]; simp)).mono ?_
  rintro e w6 ⟨rfl, hb⟩
  have H6 := Lib.hid (H5.out.below hb)
  have HX6 := Lib.hid (HX5.out.below hb)
  clear hb H5 HX5
  go_wp2_with (refine wpList_st 35 19 (w6.heap.size) 0 35 #[.int .i64 0, .int .i64 0, .int .i64 0, .int .i64 0, .int .i64 0, .int .i64 0, .int .i64 0, .int .i64 0, .string ⟨#[]⟩, .int .i64 0, .int .u32 0, .slice none 0 0, .int .i64 0, .slice none 0 0, .slice none 0 0, .int .i64 0, .slice none 0 0, .slice none 0 0, .slice none 0 0] #[.int .i64 0, .int .i64 0, .int .i64 0, .int .i64 0, .int .i64 0, .int .i64 0, .int .i64 0, .int .i64 0, .string ⟨#[]⟩, .int .i64 0, .int .u32 0, .slice none 0 0, .int .i64 0, .slice none 0 0, .slice none 0 0, .int .i64 0, .slice none 0 0, .slice none 0 0, .slice none 0 0] #[.int .i64 0, .int .i64 0, .int .i64 0, .int .i64 0, .int .i64 0, .int .i64 0, .int .i64 0, .int .i64 0, .string ⟨#[]⟩, .int .i64 0, .int .u32 0, .slice none 0 0, .int .i64 0, .slice none 0 0, .slice none 0 0, .int .i64 0, .slice none 0 0, .slice none 0 0, .slice none 0 0] _ _ rfl rfl rfl rfl rfl (by kernel_rfl) rfl (bx_new w6 #[.int .i64 0, .int .i64 0, .int .i64 0, .int .i64 0, .int .i64 0, .int .i64 0, .int .i64 0, .int .i64 0, .string ⟨#[]⟩, .int .i64 0, .int .u32 0, .slice none 0 0, .int .i64 0, .slice none 0 0, .slice none 0 0, .int .i64 0, .slice none 0 0, .slice none 0 0, .slice none 0 0] 35) (by simp) zero_ones rfl ?_; intro w7 hx7 hc7; have hb7 : Below w6.heap.size w6 w7 := hc7.below (below_one w6 _) (by simp) (by simp); have H7 := Lib.hid (H6.out.below hb7); have HX7 := Lib.hid (HX6.out.below hb7); clear hx7 hc7 hb7 H6 HX6)
  refine (heal_yes H7.out.nt (-2) (-1) HI.out HI1.out (by rw [HLK2.out]; simp)).mono ?_
  rintro e w8 ⟨rfl, N8, hN, hM⟩
  have he : (([] : List (Int × Int)) ++ [((-2 : Int), (-1 : Int))]).erase (-2, -1) = [] := by decide
  rw [HLK2.out, he] at hN
  clear he
  have H8 := Lib.hid (H7.out.mv hN hM)
  have HX8 := Lib.hid (HX7.out.mv hM)
  clear hN hM H7 HX7
  go_wp2_with fail
  refine (dlv_any H8.out.nt 1 rfl (by omega) (-7) 0 (by decide) (by simp)).mono ?_
  rintro e w9 ⟨r, N9, hrm, rfl, hk, hN, hM⟩
  have HRM : Hid (r.m = (askR (-2)).m) := hrm
  have H9 : Hid (NS w w9 R N9 [] []) := H8.out.mv hN hM
  have HX9 := Lib.hid (HX8.out.mv hM)
  have HR9 := Lib.hid hk.now
  clear hrm hk hN hM H8 HX8
  go_wp2_with (first | (refine wpList_st 35 19 (w9.heap.size) 0 35 r.cells #[.int .i64 0, .int .i64 0, .int .i64 0, .int .i64 0, .int .i64 0, .int .i64 0, .int .i64 0, .int .i64 0, .string ⟨#[]⟩, .int .i64 0, .int .u32 0, .slice none 0 0, .int .i64 0, .slice none 0 0, .slice none 0 0, .int .i64 0, .slice none 0 0, .slice none 0 0, .slice none 0 0] r.cells _ _ rfl rfl rfl rfl rfl (by kernel_rfl) rfl (bx_new w9 #[.int .i64 0, .int .i64 0, .int .i64 0, .int .i64 0, .int .i64 0, .int .i64 0, .int .i64 0, .int .i64 0, .string ⟨#[]⟩, .int .i64 0, .int .u32 0, .slice none 0 0, .int .i64 0, .slice none 0 0, .slice none 0 0, .int .i64 0, .slice none 0 0, .slice none 0 0, .slice none 0 0] 35) (by simp) (cells_ones r) rfl ?_; intro w10 hx10 hc10; have hb10 : Below w9.heap.size w9 w10 := hc10.below (below_one w9 _) (by simp) (by simp); have H10 := Lib.hid (H9.out.below hb10); have HX10 := Lib.hid (HX9.out.below hb10); have HR10 := Lib.hid (HR9.out.below hb10); have HY10 := Lib.hid hx10.box; clear hx10 hc10 hb10 H9 HX9 HR9) | refine wpList_ldM _ _ _ rfl rfl rfl rfl HX10.out.box ?_ | (refine wpList_ung (by rfl) ?_; refine wpList_ldM _ _ _ rfl rfl rfl rfl HX10.out.box ?_) | refine wpList_ldM _ _ _ rfl rfl rfl rfl HY10.out ?_ | (refine wpList_ung (by rfl) ?_; refine wpList_ldM _ _ _ rfl rfl rfl rfl HY10.out ?_))
  refine (sameMsg_self r (askR (-2)) _ HR10.out (ask_at _ _ HI.out) HRM.out (by rw [HRM.out]; exact HSM.out)).mono ?_
  rintro e w11 ⟨rfl, hb⟩
  have H11 := Lib.hid (H10.out.below hb)
  clear hb H10
  obtain ⟨ga, o, hA⟩ := H11.out.nt
  have HA := Lib.hid hA
  clear hA
  go_wp2_with fail
  refine (ntLen_any HA.out 0 rfl).mono ?_
  rintro e w12 ⟨rfl, rfl⟩
  go_wp2
  go_ret
  exact ⟨rfl, H11.out.bel⟩

end Go.Proofs.Ytggjpjpemgpeeaa
