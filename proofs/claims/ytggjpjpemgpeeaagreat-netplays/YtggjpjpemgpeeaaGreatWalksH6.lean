/-
  The reference's Message and SameMsg.
-/
import Derived.Test.YtggjpjpemgpeeaaGreatWalksH2
import Derived.Test.YtggjpjpemgpeeaaGreatLd
import Derived.Test.YtggjpjpemgpeeaaGreatWalksY6
import Derived.Test.YtggjpjpemgpeeaaGreatExt2
import Derived.Deep.DeepCutAuto
namespace Go.Proofs.YtggjpjpemgpeeaaGreat
open Go.RowKit


theorem lit_be4 (n : Nat) (hn : n < 4294967296) (w : World) (B : Nat) (hB : w.heap.size = B) : SeenAt (w.alloc (.cells #[Value.int IntKind.u8 ((n : Int) / 16777216), Value.int IntKind.u8 ((n : Int) / 65536 % 256), Value.int IntKind.u8 ((n : Int) / 256 % 256), Value.int IntKind.u8 ((n : Int) % 256)] 5)) (some ⟨B, 0, none⟩) 4 (be4 n) := by
  subst hB
  refine (ownB_lit w w.heap.size (be4 n) _ ?_ (be4_bytes n) (Nat.le_refl _) (by rw [be4_len]; decide)).seenAt
  have e : (n : Int) / 16777216 = ((n / 16777216 % 256 : Nat) : Int) := by omega
  rw [e]
  simp [vals, be4]

theorem one_rm {r : Rm} {W : World} (h : MsgAt W r) (hs : r.m.ent.key.length ≤ 16 ∧ r.m.ent.frag.length ≤ 256) :
    Calls Tryz.prog 45 #[.agg #[.int .i64 r.m.ent.seq, .int .i64 r.m.ent.client, .int .i64 r.m.ent.num, .int .i64 r.m.ent.op, .string (strB r.m.ent.key), .int .i64 r.m.ent.size, .int .u32 (r.m.ent.sum : Int), .slice r.loc r.el r.c]] W (RetO W (encE r.m.ent)) := by
  have x := one_own r.m.ent r.loc r.c W h.wf.ent (by omega) (by omega) h.ent
  rw [h.el] at x
  exact x

theorem part1_len {A P R T : List Nat} {L : Nat} (h : T = A ++ (P ++ R)) (hl : T.length = L) : A.length + P.length ≤ L := by
  rw [← hl, h, List.length_append, List.length_append]
  omega


set_option maxRecDepth 100000 in
set_option maxHeartbeats 20000000 in
theorem message_own (r : Rm) (w : World) (h : MsgAt w r) (hs : SndMg r.m) : Calls Tryz.prog 27 #[.agg r.cells] w (RetO w (encMg r.m)) := by
  have hs1 := hs.mem
  have hs2 := hs.frags
  have hs3 := hs.keys
  have hs4 := hs.srcs
  have hs5 := hs.ents
  have hlf : r.fl ≤ 16 := by have := h.fl; rw [h.hf, List.length_map] at hs2; omega
  have hlk : r.kl ≤ 4096 := by have := h.kl; omega
  have hlm : r.ml ≤ 16 := by have := h.ml; omega
  have hls : r.sl ≤ 16 := by have := h.sl; omega
  have hln : r.nl ≤ 4096 := by have := h.nl; omega
  have HZ : Hid (∀ z ∈ [r.m.kind, r.m.frm, r.m.to, r.m.epoch, r.m.e, r.m.cep, (r.ml : Int)], I64 z) := by
    intro z hz
    simp at hz
    rcases hz with rfl | rfl | rfl | rfl | rfl | rfl | rfl
    · exact h.wf.kind
    · exact h.wf.frm
    · exact h.wf.to
    · exact h.wf.epoch
    · exact h.wf.e
    · exact h.wf.cep
    · exact ⟨by omega, by omega⟩
  have HENC : Hid (bodM r.m ++ be4 (Crc.sum (bodM r.m)) = encMg r.m) := rfl
  have HLB : Hid ((bodM r.m).length ≤ 1700000) := by have := encTM_len hs; show _ ≤ _; unfold bodM; rw [List.length_cons]; omega
  have HEF : Hid (∀ x ∈ r.fs, x.data.length ≤ 256) := fun x hx => hs.frag (x.pos, x.data) (by rw [h.hf]; exact List.mem_map_of_mem hx)
  have HEK : Hid (∀ x ∈ r.m.keys, Gf.Bytes x ∧ x.length ≤ 16) := fun x hx => ⟨h.wf.keys x hx, hs.key x hx⟩
  have HEN : Hid (∀ e ∈ r.m.ents, e.key.length ≤ 16 ∧ e.frag.length ≤ 256) := fun e he => sndE_lens e (hs.each e he)
  have HEE : Hid (r.m.ent.key.length ≤ 16 ∧ r.m.ent.frag.length ≤ 256) := sndE_lens _ hs.ent
  have HT : Hid (bodM r.m = [1] ++ (encs [r.m.kind, r.m.frm, r.m.to, r.m.epoch, r.m.e, r.m.cep, (r.ml : Int)] ++ (encs r.m.mem ++ (encE r.m.ent ++ (encs [(r.fl : Int)] ++ (encL encFr r.fs ++ (encs [(r.kl : Int)] ++ (encL Pk.txt r.m.keys ++ (encs [(r.sl : Int)] ++ (encL encSr r.m.srcs ++ ((encs [(r.nl : Int)] ++ encL encE r.m.ents) ++ []))))))))))) := by show _ = _; rw [bodM_cut h]; simp
  show Calls Tryz.prog 27 #[.agg #[.int .i64 r.m.kind, .int .i64 r.m.frm, .int .i64 r.m.to, .int .i64 r.m.epoch, .int .i64 r.m.ent.seq, .int .i64 r.m.ent.client, .int .i64 r.m.ent.num, .int .i64 r.m.ent.op, .string (strB r.m.ent.key), .int .i64 r.m.ent.size, .int .u32 (r.m.ent.sum : Int), .slice r.loc r.el r.c, .int .i64 r.m.e, .slice r.fa r.fl r.fc, .slice r.ka r.kl r.kc, .int .i64 r.m.cep, .slice r.ma r.ml r.mc, .slice r.sa r.sl r.sc, .slice r.na r.nl r.nc]] w _
  have HX0 : Hid (Box (w.alloc (.cells #[.int .i64 r.m.kind, .int .i64 r.m.frm, .int .i64 r.m.to, .int .i64 r.m.epoch, .int .i64 r.m.ent.seq, .int .i64 r.m.ent.client, .int .i64 r.m.ent.num, .int .i64 r.m.ent.op, .string (strB r.m.ent.key), .int .i64 r.m.ent.size, .int .u32 (r.m.ent.sum : Int), .slice r.loc r.el r.c, .int .i64 r.m.e, .slice r.fa r.fl r.fc, .slice r.ka r.kl r.kc, .int .i64 r.m.cep, .slice r.ma r.ml r.mc, .slice r.sa r.sl r.sc, .slice r.na r.nl r.nc] 40)) w.heap.size #[.int .i64 r.m.kind, .int .i64 r.m.frm, .int .i64 r.m.to, .int .i64 r.m.epoch, .int .i64 r.m.ent.seq, .int .i64 r.m.ent.client, .int .i64 r.m.ent.num, .int .i64 r.m.ent.op, .string (strB r.m.ent.key), .int .i64 r.m.ent.size, .int .u32 (r.m.ent.sum : Int), .slice r.loc r.el r.c, .int .i64 r.m.e, .slice r.fa r.fl r.fc, .slice r.ka r.kl r.kc, .int .i64 r.m.cep, .slice r.ma r.ml r.mc, .slice r.sa r.sl r.sc, .slice r.na r.nl r.nc]) := box_new w _ _ _ rfl
  have HM0 := Lib.hid (h.below (below_one w (.cells #[.int .i64 r.m.kind, .int .i64 r.m.frm, .int .i64 r.m.to, .int .i64 r.m.epoch, .int .i64 r.m.ent.seq, .int .i64 r.m.ent.client, .int .i64 r.m.ent.num, .int .i64 r.m.ent.op, .string (strB r.m.ent.key), .int .i64 r.m.ent.size, .int .u32 (r.m.ent.sum : Int), .slice r.loc r.el r.c, .int .i64 r.m.e, .slice r.fa r.fl r.fc, .slice r.ka r.kl r.kc, .int .i64 r.m.cep, .slice r.ma r.ml r.mc, .slice r.sa r.sl r.sc, .slice r.na r.nl r.nc] 40)))
  have HW0 : Hid ((w.alloc (.cells #[.int .i64 r.m.kind, .int .i64 r.m.frm, .int .i64 r.m.to, .int .i64 r.m.epoch, .int .i64 r.m.ent.seq, .int .i64 r.m.ent.client, .int .i64 r.m.ent.num, .int .i64 r.m.ent.op, .string (strB r.m.ent.key), .int .i64 r.m.ent.size, .int .u32 (r.m.ent.sum : Int), .slice r.loc r.el r.c, .int .i64 r.m.e, .slice r.fa r.fl r.fc, .slice r.ka r.kl r.kc, .int .i64 r.m.cep, .slice r.ma r.ml r.mc, .slice r.sa r.sl r.sc, .slice r.na r.nl r.nc] 40)).heap.size = w.heap.size + 1) := by show _ = _; simp
  have HBW : Hid (Below w.heap.size w (w.alloc (.cells #[.int .i64 r.m.kind, .int .i64 r.m.frm, .int .i64 r.m.to, .int .i64 r.m.epoch, .int .i64 r.m.ent.seq, .int .i64 r.m.ent.client, .int .i64 r.m.ent.num, .int .i64 r.m.ent.op, .string (strB r.m.ent.key), .int .i64 r.m.ent.size, .int .u32 (r.m.ent.sum : Int), .slice r.loc r.el r.c, .int .i64 r.m.e, .slice r.fa r.fl r.fc, .slice r.ka r.kl r.kc, .int .i64 r.m.cep, .slice r.ma r.ml r.mc, .slice r.sa r.sl r.sc, .slice r.na r.nl r.nc] 40))) := below_one w _
  clear h hs hs1 hs2 hs3 hs4 hs5
  obtain ⟨x0, x1, x2, x3, x4, x5, x6, x7, x8, x9, x10, x11, x12, x13, x14, x15, x16, x17, x18⟩ := box19 HX0.out
  have HO : Hid (OwnB ((w.alloc (.cells #[.int .i64 r.m.kind, .int .i64 r.m.frm, .int .i64 r.m.to, .int .i64 r.m.epoch, .int .i64 r.m.ent.seq, .int .i64 r.m.ent.client, .int .i64 r.m.ent.num, .int .i64 r.m.ent.op, .string (strB r.m.ent.key), .int .i64 r.m.ent.size, .int .u32 (r.m.ent.sum : Int), .slice r.loc r.el r.c, .int .i64 r.m.e, .slice r.fa r.fl r.fc, .slice r.ka r.kl r.kc, .int .i64 r.m.cep, .slice r.ma r.ml r.mc, .slice r.sa r.sl r.sc, .slice r.na r.nl r.nc] 40)).alloc (.cells #[.int .u8 1] 5)) (w.heap.size + 1) (w.heap.size + 1) 1 [1]) := by
    have := ownB_lit (w.alloc (.cells #[.int .i64 r.m.kind, .int .i64 r.m.frm, .int .i64 r.m.to, .int .i64 r.m.epoch, .int .i64 r.m.ent.seq, .int .i64 r.m.ent.client, .int .i64 r.m.ent.num, .int .i64 r.m.ent.op, .string (strB r.m.ent.key), .int .i64 r.m.ent.size, .int .u32 (r.m.ent.sum : Int), .slice r.loc r.el r.c, .int .i64 r.m.e, .slice r.fa r.fl r.fc, .slice r.ka r.kl r.kc, .int .i64 r.m.cep, .slice r.ma r.ml r.mc, .slice r.sa r.sl r.sc, .slice r.na r.nl r.nc] 40)) (w.heap.size + 1) [1] #[.int .u8 1] rfl (by intro c hc; simp at hc; omega) (by simp) (by unfold maxLen; simp)
    show OwnB _ _ _ _ _
    simpa using this
  have HI := Lib.hid (ints_lit ((w.alloc (.cells #[.int .i64 r.m.kind, .int .i64 r.m.frm, .int .i64 r.m.to, .int .i64 r.m.epoch, .int .i64 r.m.ent.seq, .int .i64 r.m.ent.client, .int .i64 r.m.ent.num, .int .i64 r.m.ent.op, .string (strB r.m.ent.key), .int .i64 r.m.ent.size, .int .u32 (r.m.ent.sum : Int), .slice r.loc r.el r.c, .int .i64 r.m.e, .slice r.fa r.fl r.fc, .slice r.ka r.kl r.kc, .int .i64 r.m.cep, .slice r.ma r.ml r.mc, .slice r.sa r.sl r.sc, .slice r.na r.nl r.nc] 40)).alloc (.cells #[.int .u8 1] 5)) [r.m.kind, r.m.frm, r.m.to, r.m.epoch, r.m.e, r.m.cep, (r.ml : Int)] #[.int .i64 r.m.kind, .int .i64 r.m.frm, .int .i64 r.m.to, .int .i64 r.m.epoch, .int .i64 r.m.e, .int .i64 r.m.cep, .int .i64 (r.ml : Int)] 7 (w.heap.size + 1 + 1) (by simp) rfl rfl HZ.out (by unfold maxLen; omega))
  have HOI := Lib.hid (HO.out.chg (gs := []) (Chg.of_below (below_one _ (.cells #[.int .i64 r.m.kind, .int .i64 r.m.frm, .int .i64 r.m.to, .int .i64 r.m.epoch, .int .i64 r.m.e, .int .i64 r.m.cep, .int .i64 (r.ml : Int)] 3))) (by simp))
  have HE : Hid (Below (w.alloc (.cells #[.int .i64 r.m.kind, .int .i64 r.m.frm, .int .i64 r.m.to, .int .i64 r.m.epoch, .int .i64 r.m.ent.seq, .int .i64 r.m.ent.client, .int .i64 r.m.ent.num, .int .i64 r.m.ent.op, .string (strB r.m.ent.key), .int .i64 r.m.ent.size, .int .u32 (r.m.ent.sum : Int), .slice r.loc r.el r.c, .int .i64 r.m.e, .slice r.fa r.fl r.fc, .slice r.ka r.kl r.kc, .int .i64 r.m.cep, .slice r.ma r.ml r.mc, .slice r.sa r.sl r.sc, .slice r.na r.nl r.nc] 40)).heap.size (w.alloc (.cells #[.int .i64 r.m.kind, .int .i64 r.m.frm, .int .i64 r.m.to, .int .i64 r.m.epoch, .int .i64 r.m.ent.seq, .int .i64 r.m.ent.client, .int .i64 r.m.ent.num, .int .i64 r.m.ent.op, .string (strB r.m.ent.key), .int .i64 r.m.ent.size, .int .u32 (r.m.ent.sum : Int), .slice r.loc r.el r.c, .int .i64 r.m.e, .slice r.fa r.fl r.fc, .slice r.ka r.kl r.kc, .int .i64 r.m.cep, .slice r.ma r.ml r.mc, .slice r.sa r.sl r.sc, .slice r.na r.nl r.nc] 40)) (((w.alloc (.cells #[.int .i64 r.m.kind, .int .i64 r.m.frm, .int .i64 r.m.to, .int .i64 r.m.epoch, .int .i64 r.m.ent.seq, .int .i64 r.m.ent.client, .int .i64 r.m.ent.num, .int .i64 r.m.ent.op, .string (strB r.m.ent.key), .int .i64 r.m.ent.size, .int .u32 (r.m.ent.sum : Int), .slice r.loc r.el r.c, .int .i64 r.m.e, .slice r.fa r.fl r.fc, .slice r.ka r.kl r.kc, .int .i64 r.m.cep, .slice r.ma r.ml r.mc, .slice r.sa r.sl r.sc, .slice r.na r.nl r.nc] 40)).alloc (.cells #[.int .u8 1] 5)).alloc (.cells #[.int .i64 r.m.kind, .int .i64 r.m.frm, .int .i64 r.m.to, .int .i64 r.m.epoch, .int .i64 r.m.e, .int .i64 r.m.cep, .int .i64 (r.ml : Int)] 3))) := (below_one _ _).trans ((below_one _ _).mono (by simp))
  clear HO
  go_enter Tryz.func27, Tryz.ntmps27
  go_wp2_with fail
  clear x0 x1 x2 x3 x4 x5 x6 x7 x8 x9 x10 x11 x12 x13 x14 x15 x16 x17 x18
  generalize ((w.alloc (.cells #[.int .i64 r.m.kind, .int .i64 r.m.frm, .int .i64 r.m.to, .int .i64 r.m.epoch, .int .i64 r.m.ent.seq, .int .i64 r.m.ent.client, .int .i64 r.m.ent.num, .int .i64 r.m.ent.op, .string (strB r.m.ent.key), .int .i64 r.m.ent.size, .int .u32 (r.m.ent.sum : Int), .slice r.loc r.el r.c, .int .i64 r.m.e, .slice r.fa r.fl r.fc, .slice r.ka r.kl r.kc, .int .i64 r.m.cep, .slice r.ma r.ml r.mc, .slice r.sa r.sl r.sc, .slice r.na r.nl r.nc] 40)).alloc (.cells #[.int .u8 1] 5)).alloc (.cells #[.int .i64 r.m.kind, .int .i64 r.m.frm, .int .i64 r.m.to, .int .i64 r.m.epoch, .int .i64 r.m.e, .int .i64 r.m.cep, .int .i64 (r.ml : Int)] 3) = v0 at *
  generalize (w.alloc (.cells #[.int .i64 r.m.kind, .int .i64 r.m.frm, .int .i64 r.m.to, .int .i64 r.m.epoch, .int .i64 r.m.ent.seq, .int .i64 r.m.ent.client, .int .i64 r.m.ent.num, .int .i64 r.m.ent.op, .string (strB r.m.ent.key), .int .i64 r.m.ent.size, .int .u32 (r.m.ent.sum : Int), .slice r.loc r.el r.c, .int .i64 r.m.e, .slice r.fa r.fl r.fc, .slice r.ka r.kl r.kc, .int .i64 r.m.cep, .slice r.ma r.ml r.mc, .slice r.sa r.sl r.sc, .slice r.na r.nl r.nc] 40)) = w0 at *
  have HOO : Hid (OwnB v0 w0.heap.size (w.heap.size + 1) 1 [1]) := HOI.out.base (Nat.le_of_eq HW0.out)
  clear HOI
  obtain ⟨p1, hp1⟩ : ∃ q, encs [r.m.kind, r.m.frm, r.m.to, r.m.epoch, r.m.e, r.m.cep, (r.ml : Int)] = q := ⟨_, rfl⟩
  obtain ⟨p2, hp2⟩ : ∃ q, encs r.m.mem = q := ⟨_, rfl⟩
  obtain ⟨p3, hp3⟩ : ∃ q, encE r.m.ent = q := ⟨_, rfl⟩
  obtain ⟨p4, hp4⟩ : ∃ q, encs [(r.fl : Int)] = q := ⟨_, rfl⟩
  obtain ⟨f4, hf4⟩ : ∃ q, encL encFr r.fs = q := ⟨_, rfl⟩
  obtain ⟨p5, hp5⟩ : ∃ q, encs [(r.kl : Int)] = q := ⟨_, rfl⟩
  obtain ⟨f5, hf5⟩ : ∃ q, encL Pk.txt r.m.keys = q := ⟨_, rfl⟩
  obtain ⟨p6, hp6⟩ : ∃ q, encs [(r.sl : Int)] = q := ⟨_, rfl⟩
  obtain ⟨f6, hf6⟩ : ∃ q, encL encSr r.m.srcs = q := ⟨_, rfl⟩
  obtain ⟨p7, hp7⟩ : ∃ q, encs [(r.nl : Int)] ++ encL encE r.m.ents = q := ⟨_, rfl⟩
  rw [hp1, hp2, hp3, hp4, hf4, hp5, hf5, hp6, hf6, hp7] at HT
  have Hp1 := Lib.hid hp1
  have Hp2 := Lib.hid hp2
  have Hp3 := Lib.hid hp3
  have Hp4 := Lib.hid hp4
  have Hf4 := Lib.hid hf4
  have Hp5 := Lib.hid hp5
  have Hf5 := Lib.hid hf5
  have Hp6 := Lib.hid hp6
  have Hf6 := Lib.hid hf6
  have Hp7 := Lib.hid hp7
  clear hp1 hp2 hp3 hp4 hf4 hp5 hf5 hp6 hf6 hp7
  obtain ⟨TB, hTB⟩ : ∃ q, bodM r.m = q := ⟨_, rfl⟩
  rw [hTB] at HT HENC HLB
  have HTB := Lib.hid hTB
  clear hTB
  obtain ⟨LT, hLT⟩ : ∃ q, TB.length = q := ⟨_, rfl⟩
  rw [hLT] at HLB
  have HLT := Lib.hid hLT
  clear hLT
  refine (nums_own _ _ 7 _ _ rfl HI.out (by omega)).mono ?_
  rintro e v1 ⟨g1, c1, rfl, ho1, hb1⟩
  rw [Hp1.out] at ho1 ⊢
  clear HI
  have HE1 := Lib.hid (HE.out.trans (hb1.mono HE.out.size))
  have HO1 := Lib.hid (HOO.out.chg (gs := []) (Chg.of_below hb1) (by simp))
  have HS1 := Lib.hid ho1.seenAt
  have hgl := HO1.out.lt.1
  clear ho1 hb1 HE HOO
  have HBD : Hid ([1].length + p1.length ≤ 1000000000) := by have h1 := part1_len HT.out HLT.out; have h2 := HLB.out; show _ ≤ _; omega
  have HT2 : Hid (TB = ([1] ++ p1) ++ (p2 ++ (p3 ++ (p4 ++ (f4 ++ (p5 ++ (f5 ++ (p6 ++ (f6 ++ (p7 ++ [])))))))))) := by show _ = _; rw [HT.out]; simp only [List.append_assoc]
  generalize hq : p1.length = qq at *
  have HQP := Lib.hid hq
  clear hq
  go_wp2_with (at_builtin; refine wpList_appB rfl (.tmp 8) (.tmp 27) rfl w0.heap.size (w.heap.size + 1) 1 [1] p1 rfl HO1.out _ _ (by rw [HQP.out]; rfl) HS1.out (by rw [HQP.out]; exact HBD.out) HE1.out.size ?_; intro g1' c1' v1' ho2 chg2 hg2; have HE : Hid (Below w0.heap.size w0 v1') := (chg2.below HE1.out HE1.out.size (by simp; omega)); have HO2 := Lib.hid ho2; clear ho2 chg2 hg2 HE1 HO1 HS1 hgl HBD HT HQP; generalize [1] ++ p1 = A1 at *; generalize hq : A1.length = q1 at *; have HQ1 := Lib.hid hq; clear hq; obtain ⟨x0, x1, x2, x3, x4, x5, x6, x7, x8, x9, x10, x11, x12, x13, x14, x15, x16, x17, x18⟩ := box19 (HX0.out.below HE.out))
  have HT := HT2
  clear HT2
  refine (nums_own _ _ _ r.m.mem _ HM0.out.ml (HM0.out.below HE.out).mem (by omega)).mono ?_
  rintro e v2 ⟨g2, c2, rfl, ho1, hb1⟩
  rw [Hp2.out] at ho1 ⊢
  clear x0 x1 x2 x3 x4 x5 x6 x7 x8 x9 x10 x11 x12 x13 x14 x15 x16 x17 x18
  have HE1 := Lib.hid (HE.out.trans (hb1.mono HE.out.size))
  have HO1 := Lib.hid (HO2.out.chg (gs := []) (Chg.of_below hb1) (by simp))
  have HS1 := Lib.hid ho1.seenAt
  have hgl := HO1.out.lt.1
  clear ho1 hb1 HE HO2
  have HBD : Hid (A1.length + p2.length ≤ 1000000000) := by have h1 := part1_len HT.out HLT.out; have h2 := HLB.out; show _ ≤ _; omega
  have HT2 : Hid (TB = (A1 ++ p2) ++ (p3 ++ (p4 ++ (f4 ++ (p5 ++ (f5 ++ (p6 ++ (f6 ++ (p7 ++ []))))))))) := by show _ = _; rw [HT.out]; simp only [List.append_assoc]
  generalize hq : p2.length = qq at *
  have HQP := Lib.hid hq
  clear hq
  go_wp2_with (at_builtin; refine wpList_appB rfl (.tmp 29) (.tmp 33) rfl w0.heap.size g1' c1' A1 p2 (by rw [HQ1.out]; rfl) HO1.out _ _ (by rw [HQP.out]; rfl) HS1.out (by rw [HQP.out]; exact HBD.out) HE1.out.size ?_; intro g2' c2' v2' ho2 chg2 hg2; have HE : Hid (Below w0.heap.size w0 v2') := (chg2.below HE1.out HE1.out.size (by simp; omega)); have HO3 := Lib.hid ho2; clear ho2 chg2 hg2 HE1 HO1 HS1 hgl HBD HT HQP; generalize A1 ++ p2 = A2 at *; generalize hq : A2.length = q2 at *; have HQ2 := Lib.hid hq; clear hq; obtain ⟨x0, x1, x2, x3, x4, x5, x6, x7, x8, x9, x10, x11, x12, x13, x14, x15, x16, x17, x18⟩ := box19 (HX0.out.below HE.out))
  have HT := HT2
  clear HT2
  refine (one_rm (HM0.out.below HE.out) HEE.out).mono ?_
  rintro e v3 ⟨g3, c3, rfl, ho1, hb1⟩
  rw [Hp3.out] at ho1 ⊢
  clear x0 x1 x2 x3 x4 x5 x6 x7 x8 x9 x10 x11 x12 x13 x14 x15 x16 x17 x18
  have HE1 := Lib.hid (HE.out.trans (hb1.mono HE.out.size))
  have HO1 := Lib.hid (HO3.out.chg (gs := []) (Chg.of_below hb1) (by simp))
  have HS1 := Lib.hid ho1.seenAt
  have hgl := HO1.out.lt.1
  clear ho1 hb1 HE HO3
  have HBD : Hid (A2.length + p3.length ≤ 1000000000) := by have h1 := part1_len HT.out HLT.out; have h2 := HLB.out; show _ ≤ _; omega
  have HT2 : Hid (TB = (A2 ++ p3) ++ (p4 ++ (f4 ++ (p5 ++ (f5 ++ (p6 ++ (f6 ++ (p7 ++ [])))))))) := by show _ = _; rw [HT.out]; simp only [List.append_assoc]
  generalize hq : p3.length = qq at *
  have HQP := Lib.hid hq
  clear hq
  go_wp2_with (at_builtin; refine wpList_appB rfl (.tmp 35) (.tmp 38) rfl w0.heap.size g2' c2' A2 p3 (by rw [HQ2.out]; rfl) HO1.out _ _ (by rw [HQP.out]; rfl) HS1.out (by rw [HQP.out]; exact HBD.out) HE1.out.size ?_; intro g3' c3' v3' ho2 chg2 hg2; have HE : Hid (Below w0.heap.size w0 v3') := (chg2.below HE1.out HE1.out.size (by simp; omega)); have HO4 := Lib.hid ho2; clear ho2 chg2 hg2 HE1 HO1 HS1 hgl HBD HT HQP; generalize A2 ++ p3 = A3 at *; generalize hq : A3.length = q3 at *; have HQ3 := Lib.hid hq; clear hq; obtain ⟨x0, x1, x2, x3, x4, x5, x6, x7, x8, x9, x10, x11, x12, x13, x14, x15, x16, x17, x18⟩ := box19 (HX0.out.below HE.out))
  have HT := HT2
  clear HT2
  have HI := Lib.hid (ints_lit v3' [(r.fl : Int)] #[.int .i64 (r.fl : Int)] 1 v3'.heap.size rfl rfl rfl (by intro z hz; simp at hz; subst hz; exact ⟨by omega, by omega⟩) (by unfold maxLen; omega))
  refine (nums_own _ _ 1 _ _ rfl HI.out (by omega)).mono ?_
  rintro e v4 ⟨g4, c4, rfl, ho1, hb0⟩
  have hb1 := (below_one v3' (.cells #[.int .i64 (r.fl : Int)] 3)).trans (hb0.mono (by simp))
  clear hb0 HI x0 x1 x2 x3 x4 x5 x6 x7 x8 x9 x10 x11 x12 x13 x14 x15 x16 x17 x18
  rw [Hp4.out] at ho1 ⊢
  have HE1 := Lib.hid (HE.out.trans (hb1.mono HE.out.size))
  have HO1 := Lib.hid (HO4.out.chg (gs := []) (Chg.of_below hb1) (by simp))
  have HS1 := Lib.hid ho1.seenAt
  have hgl := HO1.out.lt.1
  clear ho1 hb1 HE HO4
  have HBD : Hid (A3.length + p4.length ≤ 1000000000) := by have h1 := part1_len HT.out HLT.out; have h2 := HLB.out; show _ ≤ _; omega
  have HT2 : Hid (TB = (A3 ++ p4) ++ (f4 ++ (p5 ++ (f5 ++ (p6 ++ (f6 ++ (p7 ++ []))))))) := by show _ = _; rw [HT.out]; simp only [List.append_assoc]
  generalize hq : p4.length = qq at *
  have HQP := Lib.hid hq
  clear hq
  go_wp2_with (at_builtin; refine wpList_appB rfl (.tmp 40) (.tmp 45) rfl w0.heap.size g3' c3' A3 p4 (by rw [HQ3.out]; rfl) HO1.out _ _ (by rw [HQP.out]; rfl) HS1.out (by rw [HQP.out]; exact HBD.out) HE1.out.size ?_; intro g4' c4' v4' ho2 chg2 hg2; have HE : Hid (Below w0.heap.size w0 v4') := (chg2.below HE1.out HE1.out.size (by simp; omega)); have HO5 := Lib.hid ho2; clear ho2 chg2 hg2 HE1 HO1 HS1 hgl HBD HT HQP; generalize A3 ++ p4 = A4 at *; generalize hq : A4.length = q4 at *; have HQ4 := Lib.hid hq; clear hq; obtain ⟨x0, x1, x2, x3, x4, x5, x6, x7, x8, x9, x10, x11, x12, x13, x14, x15, x16, x17, x18⟩ := box19 (HX0.out.below HE.out))
  have HT := HT2
  clear HT2
  have HEA := HE
  clear x0 x1 x2 x3 x4 x5 x6 x7 x8 x9 x10 x11 x12 x13 x14 x15 x16 x17 x18
  obtain ⟨x0, x1, x2, x3, x4, x5, x6, x7, x8, x9, x10, x11, x12, x13, x14, x15, x16, x17, x18⟩ := box19 (HX0.out.below HE.out)
  have HLF : Hid (r.fs.length = r.fl) := HM0.out.fl
  go_loopw [3, 4] (fun v i ws => ∃ (k g c : Nat), k ≤ r.fl ∧ i = .int .i64 k ∧ v = .slice (some ⟨g, 0, none⟩) (A4 ++ encL encFr (r.fs.take k)).length c ∧ Hid (OwnB ws w0.heap.size g c (A4 ++ encL encFr (r.fs.take k))) ∧ Hid (Below w0.heap.size w0 ws)) (fun _ i _ => r.fl - (intOf i).toNat)
  case atStart => exact ⟨0, g4', c4', Nat.zero_le _, rfl, by rw [List.take_zero, encL_nil, List.append_nil, HQ4.out], by rw [List.take_zero, encL_nil, List.append_nil]; exact HO5, HE⟩
  case round =>
  clear HO5 HE HEA x0 x1 x2 x3 x4 x5 x6 x7 x8 x9 x10 x11 x12 x13 x14 x15 x16 x17 x18
  obtain ⟨k, g, c, hk, rfl, rfl, HO, HE⟩ := hrel
  have j0 : (0 : Int) ≤ (k : Int) := by omega
  obtain ⟨x0, x1, x2, x3, x4, x5, x6, x7, x8, x9, x10, x11, x12, x13, x14, x15, x16, x17, x18⟩ := box19 (HX0.out.below HE.out)
  by_cases hlt : k < r.fl
  case pos =>
    have j1 : (k : Int) < (r.fl : Int) := by omega
    have HBD : Hid ((A4 ++ encL encFr (r.fs.take k)).length + (encFr (r.fs.getD k fr0)).length ≤ 1000000000) := by
      have e1 := encL_snoc encFr r.fs fr0 k (by rw [HLF.out]; exact hlt)
      have e2 := encL_take encFr r.fs (k + 1)
      have e3 := part1_len HT.out HLT.out
      have e4 := HLB.out
      rw [e1, List.length_append, Hf4.out] at e2
      show _ ≤ _
      rw [List.length_append]
      omega
    have HN : Hid (A4 ++ encL encFr (r.fs.take (k + 1)) = (A4 ++ encL encFr (r.fs.take k)) ++ encFr (r.fs.getD k fr0)) := by
      show _ = _
      rw [encL_snoc encFr r.fs fr0 k (by rw [HLF.out]; exact hlt), List.append_assoc]
    obtain ⟨b, off, hfa, hc0, hc1, hcs⟩ := (HM0.out.below HE.out).frs.el k (by rw [HLF.out]; exact hlt)
    have HWF := Lib.hid (wf_i64 (HM0.out.frs.wf _ (getD_mem r.fs k fr0 (by rw [HLF.out]; exact hlt))))
    have HSL := Lib.hid (HEF.out _ (getD_mem r.fs k fr0 (by rw [HLF.out]; exact hlt)))
    have HFA := Lib.hid hfa
    rw [hfa] at x13
    clear hfa
    have HFR := HM0.out.frs
    have HCC : Hid (∀ ws, Below w0.heap.size w0 ws → ∃ b off, r.fa = some ⟨b, off, none⟩ ∧ ws.cell? ⟨b, off + k * 2 + 1, none⟩ = some (.slice (r.fs.getD k fr0).loc (r.fs.getD k fr0).data.length (r.fs.getD k fr0).cap) ∧ SeenAt ws (r.fs.getD k fr0).loc (r.fs.getD k fr0).cap (r.fs.getD k fr0).data) := fun ws hw => by
      obtain ⟨b, off, e, _, h2, h3⟩ := (HFR.below hw).el k (by rw [HLF.out]; exact hlt)
      exact ⟨b, off, e, h2, h3⟩
    clear HFR hc1 hcs
    have HEX : Hid (encFr (r.fs.getD k fr0) = encs [(r.fs.getD k fr0).pos] ++ Pk.txt (r.fs.getD k fr0).data) := by show _ = _; simp [encFr, encs]
    rw [HEX.out] at HBD HN
    clear HEX
    generalize r.fs.getD k fr0 = p at *
    rename_i wr
    obtain ⟨wr2, hwr2⟩ : ∃ q, q = wr := ⟨_, rfl⟩
    have HI := Lib.hid (ints_lit wr [p.pos] #[.int .i64 p.pos] 1 wr.heap.size rfl rfl rfl (by intro z hz; simp at hz; subst hz; exact HWF.out) (by unfold maxLen; omega))
    clear hwr2 wr2
    generalize hqa : (A4 ++ encL encFr (r.fs.take k)).length = qa at *
    have HQA := Lib.hid hqa
    clear hqa
    go_wp2_with fail
    refine (nums_own _ _ 1 _ _ rfl HI.out (by omega)).mono ?_
    rintro e v1 ⟨g1, c1, rfl, ho1, hb0⟩
    have hb1 := (below_one wr (.cells #[.int .i64 p.pos] 3)).trans (hb0.mono (by simp))
    clear hb0 HI hc0 x0 x1 x2 x3 x4 x5 x6 x7 x8 x9 x10 x11 x12 x13 x14 x15 x16 x17 x18
    have HE1 := Lib.hid (HE.out.trans (hb1.mono HE.out.size))
    have HO1 := Lib.hid (HO.out.chg (gs := []) (Chg.of_below hb1) (by simp))
    have HS1 := Lib.hid ho1.seenAt
    have hgl := HO1.out.lt.1
    clear ho1 hb1 HE HO
    generalize hq : (encs [p.pos]).length = qq at *
    have HQP := Lib.hid hq
    clear hq
    go_wp2_with (at_builtin; refine wpList_appB rfl (.tmp 54) (.tmp 62) rfl w0.heap.size g c (A4 ++ encL encFr (r.fs.take k)) (encs [p.pos]) (by rw [HQA.out]; rfl) HO1.out _ _ (by rw [HQP.out]; rfl) HS1.out (by have h1 := HBD.out; have h2 := HQP.out; have h3 := HQA.out; have h4 := HQA.out; simp only [List.length_append] at h1 h2 h3 h4 ⊢; omega) HE1.out.size ?_; intro g2 c2 v2 ho2 chg2 hg2; have HE : Hid (Below w0.heap.size w0 v2) := (chg2.below HE1.out HE1.out.size (by simp; omega)); have HO := Lib.hid ho2; clear ho2 chg2 hg2 HE1 HO1 HS1 hgl; generalize hq : ((A4 ++ encL encFr (r.fs.take k)) ++ encs [p.pos]).length = qb at *; have HQB := Lib.hid hq; clear hq HQP; obtain ⟨x0, x1, x2, x3, x4, x5, x6, x7, x8, x9, x10, x11, x12, x13, x14, x15, x16, x17, x18⟩ := box19 (HX0.out.below HE.out); obtain ⟨b, off, hfa, hc1, hcs⟩ := HCC.out _ HE.out; rw [hfa] at x13; clear hfa; have HSD := Lib.hid hcs; clear hcs)
    refine (refText_any _ _ _ p.data _ rfl (by have := HSL.out; omega) HSD.out).mono ?_
    rintro e v3 ⟨g3, c3, rfl, ho1, hb1⟩
    clear HSD hc1 x0 x1 x2 x3 x4 x5 x6 x7 x8 x9 x10 x11 x12 x13 x14 x15 x16 x17 x18
    have HE3 := Lib.hid (HE.out.trans (hb1.mono HE.out.size))
    have HO3 := Lib.hid (HO.out.chg (gs := []) (Chg.of_below hb1) (by simp))
    have HS3 := Lib.hid ho1.seenAt
    have hgl := HO3.out.lt.1
    clear ho1 hb1 HE HO
    generalize hq : (Pk.txt p.data).length = qq at *
    have HQP := Lib.hid hq
    clear hq
    go_wp2_with (at_builtin; refine wpList_appB rfl (.tmp 64) (.tmp 71) rfl w0.heap.size g2 c2 ((A4 ++ encL encFr (r.fs.take k)) ++ encs [p.pos]) (Pk.txt p.data) (by rw [HQB.out]; rfl) HO3.out _ _ (by rw [HQP.out]; rfl) HS3.out (by have h1 := HBD.out; have h2 := HQP.out; have h3 := HQB.out; have h4 := HQA.out; simp only [List.length_append] at h1 h2 h3 h4 ⊢; omega) HE3.out.size ?_; intro g4 c4 v4 ho2 chg2 hg2; have HE : Hid (Below w0.heap.size w0 v4) := (chg2.below HE3.out HE3.out.size (by simp; omega)); have HO := Lib.hid ho2; clear ho2 chg2 hg2 HE3 HO3 HS3 hgl; rw [List.append_assoc, ← HN.out] at HO ⊢)
    go_roundw
    case rel => exact ⟨k + 1, g4, c4, by omega, by go_num, by rw [List.length_append], HO, HE⟩
    case measure => simp [intOf]; omega
  have hkl : k = r.fl := by omega
  have HTK : Hid (r.fs.take k = r.fs) := List.take_of_length_le (by rw [HLF.out]; omega)
  rw [HTK.out, Hf4.out] at HO ⊢
  have HT2 : Hid (TB = (A4 ++ f4) ++ (p5 ++ (f5 ++ (p6 ++ (f6 ++ (p7 ++ [])))))) := by show _ = _; rw [HT.out]; simp only [List.append_assoc]
  clear HT HTK HLF
  have HT := HT2
  clear HT2
  generalize A4 ++ f4 = A5 at *
  generalize hq : A5.length = qA5 at *
  have HQA5 := Lib.hid hq
  clear hq
  subst hkl
  skip
  rename_i wr
  go_wp2_with fail
  have HI := Lib.hid (ints_lit wr [(r.kl : Int)] #[.int .i64 (r.kl : Int)] 1 wr.heap.size rfl rfl rfl (by intro z hz; simp at hz; subst hz; exact ⟨by omega, by omega⟩) (by unfold maxLen; omega))
  refine (nums_own _ _ 1 _ _ rfl HI.out (by omega)).mono ?_
  rintro e v5 ⟨g5, c5, rfl, ho1, hb0⟩
  have hb1 := (below_one wr (.cells #[.int .i64 (r.kl : Int)] 3)).trans (hb0.mono (by simp))
  clear hb0 HI x0 x1 x2 x3 x4 x5 x6 x7 x8 x9 x10 x11 x12 x13 x14 x15 x16 x17 x18
  rw [Hp5.out] at ho1 ⊢
  have HE1 := Lib.hid (HE.out.trans (hb1.mono HE.out.size))
  have HO1 := Lib.hid (HO.out.chg (gs := []) (Chg.of_below hb1) (by simp))
  have HS1 := Lib.hid ho1.seenAt
  have hgl := HO1.out.lt.1
  clear ho1 hb1 HE HO
  have HBD : Hid (A5.length + p5.length ≤ 1000000000) := by have h1 := part1_len HT.out HLT.out; have h2 := HLB.out; show _ ≤ _; omega
  have HT2 : Hid (TB = (A5 ++ p5) ++ (f5 ++ (p6 ++ (f6 ++ (p7 ++ []))))) := by show _ = _; rw [HT.out]; simp only [List.append_assoc]
  generalize hq : p5.length = qq at *
  have HQP := Lib.hid hq
  clear hq
  go_wp2_with (at_builtin; refine wpList_appB rfl (.tmp 73) (.tmp 78) rfl w0.heap.size g c A5 p5 (by rw [HQA5.out]; rfl) HO1.out _ _ (by rw [HQP.out]; rfl) HS1.out (by rw [HQP.out]; exact HBD.out) HE1.out.size ?_; intro g5' c5' v5' ho2 chg2 hg2; have HE : Hid (Below w0.heap.size w0 v5') := (chg2.below HE1.out HE1.out.size (by simp; omega)); have HO6 := Lib.hid ho2; clear ho2 chg2 hg2 HE1 HO1 HS1 hgl HBD HT HQP; generalize A5 ++ p5 = A6 at *; generalize hq : A6.length = q5 at *; have HQ5 := Lib.hid hq; clear hq; obtain ⟨x0, x1, x2, x3, x4, x5, x6, x7, x8, x9, x10, x11, x12, x13, x14, x15, x16, x17, x18⟩ := box19 (HX0.out.below HE.out))
  have HT := HT2
  clear HT2
  have HEA := HE
  clear x0 x1 x2 x3 x4 x5 x6 x7 x8 x9 x10 x11 x12 x13 x14 x15 x16 x17 x18
  obtain ⟨x0, x1, x2, x3, x4, x5, x6, x7, x8, x9, x10, x11, x12, x13, x14, x15, x16, x17, x18⟩ := box19 (HX0.out.below HE.out)
  have HLF : Hid (r.m.keys.length = r.kl) := HM0.out.kl
  go_loopw [3, 5] (fun v i ws => ∃ (k g c : Nat), k ≤ r.kl ∧ i = .int .i64 k ∧ v = .slice (some ⟨g, 0, none⟩) (A6 ++ encL Pk.txt (r.m.keys.take k)).length c ∧ Hid (OwnB ws w0.heap.size g c (A6 ++ encL Pk.txt (r.m.keys.take k))) ∧ Hid (Below w0.heap.size w0 ws)) (fun _ i _ => r.kl - (intOf i).toNat)
  case atStart => exact ⟨0, g5', c5', Nat.zero_le _, rfl, by rw [List.take_zero, encL_nil, List.append_nil, HQ5.out], by rw [List.take_zero, encL_nil, List.append_nil]; exact HO6, HE⟩
  case round =>
  clear HO6 HE HEA x0 x1 x2 x3 x4 x5 x6 x7 x8 x9 x10 x11 x12 x13 x14 x15 x16 x17 x18
  obtain ⟨k, g, c, hk, rfl, rfl, HO, HE⟩ := hrel
  have j0 : (0 : Int) ≤ (k : Int) := by omega
  obtain ⟨x0, x1, x2, x3, x4, x5, x6, x7, x8, x9, x10, x11, x12, x13, x14, x15, x16, x17, x18⟩ := box19 (HX0.out.below HE.out)
  by_cases hlt : k < r.kl
  case pos =>
    have j1 : (k : Int) < (r.kl : Int) := by omega
    have HBD : Hid ((A6 ++ encL Pk.txt (r.m.keys.take k)).length + (Pk.txt (r.m.keys.getD k [])).length ≤ 1000000000) := by
      have e1 := encL_snoc Pk.txt r.m.keys [] k (by rw [HLF.out]; exact hlt)
      have e2 := encL_take Pk.txt r.m.keys (k + 1)
      have e3 := part1_len HT.out HLT.out
      have e4 := HLB.out
      rw [e1, List.length_append, Hf5.out] at e2
      show _ ≤ _
      rw [List.length_append]
      omega
    have HN : Hid (A6 ++ encL Pk.txt (r.m.keys.take (k + 1)) = (A6 ++ encL Pk.txt (r.m.keys.take k)) ++ Pk.txt (r.m.keys.getD k [])) := by
      show _ = _
      rw [encL_snoc Pk.txt r.m.keys [] k (by rw [HLF.out]; exact hlt), List.append_assoc]
    obtain ⟨b, off, hka, hcel⟩ := (HM0.out.below HE.out).keys.cell k (by rw [HLF.out]; exact hlt)
    have HSL := Lib.hid (HEK.out _ (getD_mem r.m.keys k [] (by rw [HLF.out]; exact hlt)))
    have HKA := Lib.hid hka
    rw [hka] at x14
    clear hka
    generalize r.m.keys.getD k [] = p at *
    rename_i wr
    generalize hqa : (A6 ++ encL Pk.txt (r.m.keys.take k)).length = qa at *
    have HQA := Lib.hid hqa
    clear hqa
    obtain ⟨cc, wc, hcv, hs2, hb2⟩ := conv_str wr p HSL.out.1 (by have := HSL.out.2; omega)
    have HS2 := Lib.hid hs2
    have HB2 := Lib.hid hb2
    clear hs2 hb2
    obtain ⟨lk, hlk2⟩ : ∃ q, p.length = q := ⟨_, rfl⟩
    rw [hlk2] at hcv
    have HLK := Lib.hid hlk2
    clear hlk2
    go_wp2_with fail
    refine (refText_any _ _ _ p _ HLK.out (by have := HSL.out.2; have := HLK.out; omega) HS2.out).mono ?_
    rintro e v1 ⟨g1, c1, rfl, ho1, hb0⟩
    have hb1 : Below wr.heap.size wr v1 := HB2.out.trans (hb0.mono HB2.out.size)
    clear hb0 HS2 HB2 hcv hcel x0 x1 x2 x3 x4 x5 x6 x7 x8 x9 x10 x11 x12 x13 x14 x15 x16 x17 x18
    have HE1 := Lib.hid (HE.out.trans (hb1.mono HE.out.size))
    have HO1 := Lib.hid (HO.out.chg (gs := []) (Chg.of_below hb1) (by simp))
    have HS1 := Lib.hid ho1.seenAt
    have hgl := HO1.out.lt.1
    clear ho1 hb1 HE HO
    generalize hq : (Pk.txt p).length = qq at *
    have HQP := Lib.hid hq
    clear hq
    go_wp2_with (at_builtin; refine wpList_appB rfl (.tmp 87) (.tmp 94) rfl w0.heap.size g c (A6 ++ encL Pk.txt (r.m.keys.take k)) (Pk.txt p) (by rw [HQA.out]; rfl) HO1.out _ _ (by rw [HQP.out]; rfl) HS1.out (by have h1 := HBD.out; have h2 := HQP.out; have h3 := HQA.out; have h4 := HQA.out; simp only [List.length_append] at h1 h2 h3 h4 ⊢; omega) HE1.out.size ?_; intro g2 c2 v2 ho2 chg2 hg2; have HE : Hid (Below w0.heap.size w0 v2) := (chg2.below HE1.out HE1.out.size (by simp; omega)); have HO := Lib.hid ho2; clear ho2 chg2 hg2 HE1 HO1 HS1 hgl; rw [← HN.out] at HO ⊢)
    go_roundw
    case rel => exact ⟨k + 1, g2, c2, by omega, by go_num, by rw [List.length_append], HO, HE⟩
    case measure => simp [intOf]; omega
  have hkl : k = r.kl := by omega
  have HTK : Hid (r.m.keys.take k = r.m.keys) := List.take_of_length_le (by rw [HLF.out]; omega)
  rw [HTK.out, Hf5.out] at HO ⊢
  have HT2 : Hid (TB = (A6 ++ f5) ++ (p6 ++ (f6 ++ (p7 ++ [])))) := by show _ = _; rw [HT.out]; simp only [List.append_assoc]
  clear HT HTK HLF
  have HT := HT2
  clear HT2
  generalize A6 ++ f5 = A7 at *
  generalize hq : A7.length = qA7 at *
  have HQA7 := Lib.hid hq
  clear hq
  subst hkl
  skip
  rename_i wr
  go_wp2_with fail
  have HI := Lib.hid (ints_lit wr [(r.sl : Int)] #[.int .i64 (r.sl : Int)] 1 wr.heap.size rfl rfl rfl (by intro z hz; simp at hz; subst hz; exact ⟨by omega, by omega⟩) (by unfold maxLen; omega))
  refine (nums_own _ _ 1 _ _ rfl HI.out (by omega)).mono ?_
  rintro e v6 ⟨g6, c6, rfl, ho1, hb0⟩
  have hb1 := (below_one wr (.cells #[.int .i64 (r.sl : Int)] 3)).trans (hb0.mono (by simp))
  clear hb0 HI x0 x1 x2 x3 x4 x5 x6 x7 x8 x9 x10 x11 x12 x13 x14 x15 x16 x17 x18
  rw [Hp6.out] at ho1 ⊢
  have HE1 := Lib.hid (HE.out.trans (hb1.mono HE.out.size))
  have HO1 := Lib.hid (HO.out.chg (gs := []) (Chg.of_below hb1) (by simp))
  have HS1 := Lib.hid ho1.seenAt
  have hgl := HO1.out.lt.1
  clear ho1 hb1 HE HO
  have HBD : Hid (A7.length + p6.length ≤ 1000000000) := by have h1 := part1_len HT.out HLT.out; have h2 := HLB.out; show _ ≤ _; omega
  have HT2 : Hid (TB = (A7 ++ p6) ++ (f6 ++ (p7 ++ []))) := by show _ = _; rw [HT.out]; simp only [List.append_assoc]
  generalize hq : p6.length = qq at *
  have HQP := Lib.hid hq
  clear hq
  go_wp2_with (at_builtin; refine wpList_appB rfl (.tmp 96) (.tmp 101) rfl w0.heap.size g c A7 p6 (by rw [HQA7.out]; rfl) HO1.out _ _ (by rw [HQP.out]; rfl) HS1.out (by rw [HQP.out]; exact HBD.out) HE1.out.size ?_; intro g6' c6' v6' ho2 chg2 hg2; have HE : Hid (Below w0.heap.size w0 v6') := (chg2.below HE1.out HE1.out.size (by simp; omega)); have HO7 := Lib.hid ho2; clear ho2 chg2 hg2 HE1 HO1 HS1 hgl HBD HT HQP; generalize A7 ++ p6 = A8 at *; generalize hq : A8.length = q6 at *; have HQ6 := Lib.hid hq; clear hq; obtain ⟨x0, x1, x2, x3, x4, x5, x6, x7, x8, x9, x10, x11, x12, x13, x14, x15, x16, x17, x18⟩ := box19 (HX0.out.below HE.out))
  have HT := HT2
  clear HT2
  have HEA := HE
  clear x0 x1 x2 x3 x4 x5 x6 x7 x8 x9 x10 x11 x12 x13 x14 x15 x16 x17 x18
  obtain ⟨x0, x1, x2, x3, x4, x5, x6, x7, x8, x9, x10, x11, x12, x13, x14, x15, x16, x17, x18⟩ := box19 (HX0.out.below HE.out)
  have HLF : Hid (r.m.srcs.length = r.sl) := HM0.out.sl
  go_loopw [3, 6] (fun v i ws => ∃ (k g c : Nat), k ≤ r.sl ∧ i = .int .i64 k ∧ v = .slice (some ⟨g, 0, none⟩) (A8 ++ encL encSr (r.m.srcs.take k)).length c ∧ Hid (OwnB ws w0.heap.size g c (A8 ++ encL encSr (r.m.srcs.take k))) ∧ Hid (Below w0.heap.size w0 ws)) (fun _ i _ => r.sl - (intOf i).toNat)
  case atStart => exact ⟨0, g6', c6', Nat.zero_le _, rfl, by rw [List.take_zero, encL_nil, List.append_nil, HQ6.out], by rw [List.take_zero, encL_nil, List.append_nil]; exact HO7, HE⟩
  case round =>
  clear HO7 HE HEA x0 x1 x2 x3 x4 x5 x6 x7 x8 x9 x10 x11 x12 x13 x14 x15 x16 x17 x18
  obtain ⟨k, g, c, hk, rfl, rfl, HO, HE⟩ := hrel
  have j0 : (0 : Int) ≤ (k : Int) := by omega
  obtain ⟨x0, x1, x2, x3, x4, x5, x6, x7, x8, x9, x10, x11, x12, x13, x14, x15, x16, x17, x18⟩ := box19 (HX0.out.below HE.out)
  by_cases hlt : k < r.sl
  case pos =>
    have j1 : (k : Int) < (r.sl : Int) := by omega
    have HBD : Hid ((A8 ++ encL encSr (r.m.srcs.take k)).length + (encSr (r.m.srcs.getD k (0, 0))).length ≤ 1000000000) := by
      have e1 := encL_snoc encSr r.m.srcs (0, 0) k (by rw [HLF.out]; exact hlt)
      have e2 := encL_take encSr r.m.srcs (k + 1)
      have e3 := part1_len HT.out HLT.out
      have e4 := HLB.out
      rw [e1, List.length_append, Hf6.out] at e2
      show _ ≤ _
      rw [List.length_append]
      omega
    have HN : Hid (A8 ++ encL encSr (r.m.srcs.take (k + 1)) = (A8 ++ encL encSr (r.m.srcs.take k)) ++ encSr (r.m.srcs.getD k (0, 0))) := by
      show _ = _
      rw [encL_snoc encSr r.m.srcs (0, 0) k (by rw [HLF.out]; exact hlt), List.append_assoc]
    obtain ⟨b, off, hsa, hc0, hc1⟩ := (HM0.out.below HE.out).srcs.cell k (by rw [HLF.out]; exact hlt)
    have HWS := Lib.hid (HM0.out.wf.srcs _ (getD_mem r.m.srcs k (0, 0) (by rw [HLF.out]; exact hlt)))
    have HCC : Hid (∀ ws, Below w0.heap.size w0 ws → ws.cell? ⟨w.heap.size, 17, none⟩ = some (.slice (some ⟨b, off, none⟩) r.sl r.sc) ∧ ws.cell? ⟨b, off + k * 2, none⟩ = some (.int .i64 (r.m.srcs.getD k (0, 0)).1) ∧ ws.cell? ⟨b, off + k * 2 + 1, none⟩ = some (.int .i64 (r.m.srcs.getD k (0, 0)).2)) := fun ws hw => by
      obtain ⟨b2, off2, e2, h1, h2⟩ := (HM0.out.below hw).srcs.cell k (by rw [HLF.out]; exact hlt)
      obtain ⟨y0, y1, y2, y3, y4, y5, y6, y7, y8, y9, y10, y11, y12, y13, y14, y15, y16, y17, y18⟩ := box19 (HX0.out.below hw)
      rw [hsa] at e2 y17
      cases e2
      exact ⟨y17, h1, h2⟩
    clear hsa hc0 hc1 x0 x1 x2 x3 x4 x5 x6 x7 x8 x9 x10 x11 x12 x13 x14 x15 x16 x17 x18
    generalize r.m.srcs.getD k (0, 0) = p at *
    have HEX : Hid (encSr p = encs [p.1, p.2]) := by show _ = _; simp [encSr, encs]
    rw [HEX.out] at HBD HN
    rename_i wr
    have hSw0 : Below w0.heap.size w0 wr.drew := HE.out.drew
    have HOd := Lib.hid (HO.out.chg (gs := []) (Chg.refl _ _).drew (by simp))
    obtain ⟨x0, x1, x2, x3, x4, x5, x6, x7, x8, x9, x10, x11, x12, x13, x14, x15, x16, x17, x18⟩ := box19 (HX0.out.below HE.out)
    generalize hqa : (A8 ++ encL encSr (r.m.srcs.take k)).length = qa at *
    have HQA := Lib.hid hqa
    clear hqa
    go_upto_region 19 with fail
    clear x0 x1 x2 x3 x4 x5 x6 x7 x8 x9 x10 x11 x12 x13 x14 x15 x16 x17 x18
    refine wp_region_S2 (fun x => Below w0.heap.size w0 x) (by kernel_rfl) ?_
    have hSw := hSw0
    clear hSw0 HO HE
    generalize wr.drew = wd at *
    have HI := Lib.hid (ints_lit wd [p.1, p.2] #[.int .i64 p.1, .int .i64 p.2] 2 wd.heap.size rfl rfl rfl (by intro z hz; simp at hz; rcases hz with rfl | rfl; exact HWS.out.1; exact HWS.out.2) (by unfold maxLen; omega))
    refine wpAnyH_tkS2 (i := 0) 110 (v := ?_) rfl rfl (by kernel_rfl) (by kernel_rfl) (by kernel_rfl) (by rfl) hSw (fun wq hwq => ?_) ?_
    rotate_left
    · (have hx := HCC.out wq hwq; go_simp <;> with_reducible rfl)
    simp only [List.setIfInBounds_toArray, List.set_cons_zero, List.set_cons_succ]
    refine wpAnyH_tkS2 (i := 1) 111 (v := ?_) rfl rfl (by kernel_rfl) (by kernel_rfl) (by kernel_rfl) (by rfl) hSw (fun wq hwq => ?_) ?_
    rotate_left
    · (have hx := HCC.out wq hwq; go_simp <;> with_reducible rfl)
    simp only [List.setIfInBounds_toArray, List.set_cons_zero, List.set_cons_succ]
    refine wpAnyH_tkS2 (i := 2) 112 (v := ?_) rfl rfl (by kernel_rfl) (by kernel_rfl) (by kernel_rfl) (by rfl) hSw (fun wq hwq => ?_) ?_
    rotate_left
    · (have hx := HCC.out wq hwq; go_simp <;> with_reducible rfl)
    simp only [List.setIfInBounds_toArray, List.set_cons_zero, List.set_cons_succ]
    refine wpAnyH_tkS2 (i := 3) 113 (v := ?_) rfl rfl (by kernel_rfl) (by kernel_rfl) (by kernel_rfl) (by rfl) hSw (fun wq hwq => ?_) ?_
    rotate_left
    · (have hx := HCC.out wq hwq; go_simp <;> with_reducible rfl)
    simp only [List.setIfInBounds_toArray, List.set_cons_zero, List.set_cons_succ]
    refine wpAnyH_tkS2 (i := 4) 114 (v := ?_) rfl rfl (by kernel_rfl) (by kernel_rfl) (by kernel_rfl) (by rfl) hSw (fun wq hwq => ?_) ?_
    rotate_left
    · (have hx := HCC.out wq hwq; go_simp <;> with_reducible rfl)
    simp only [List.setIfInBounds_toArray, List.set_cons_zero, List.set_cons_succ]
    refine wpAnyH_tkS2 (i := 5) 115 (v := ?_) rfl rfl (by kernel_rfl) (by kernel_rfl) (by kernel_rfl) (by rfl) hSw (fun wq hwq => ?_) ?_
    rotate_left
    · (have hx := HCC.out wq hwq; go_simp <;> with_reducible rfl)
    simp only [List.setIfInBounds_toArray, List.set_cons_zero, List.set_cons_succ]
    refine wpAnyH_tkS2 (i := 6) 116 (v := ?_) rfl rfl (by kernel_rfl) (by kernel_rfl) (by kernel_rfl) (by rfl) hSw (fun wq hwq => ?_) ?_
    rotate_left
    · (have hx := HCC.out wq hwq; go_simp <;> with_reducible rfl)
    simp only [List.setIfInBounds_toArray, List.set_cons_zero, List.set_cons_succ]
    refine wpAnyH_tkS2 (i := 7) 117 (v := ?_) rfl rfl (by kernel_rfl) (by kernel_rfl) (by kernel_rfl) (by rfl) hSw (fun wq hwq => ?_) ?_
    rotate_left
    · (have hx := HCC.out wq hwq; go_simp <;> with_reducible rfl)
    simp only [List.setIfInBounds_toArray, List.set_cons_zero, List.set_cons_succ]
    refine wpAnyH_tkS2 (i := 8) 118 (v := ?_) rfl rfl (by kernel_rfl) (by kernel_rfl) (by kernel_rfl) (by rfl) hSw (fun wq hwq => ?_) ?_
    rotate_left
    · (have hx := HCC.out wq hwq; go_simp <;> with_reducible rfl)
    simp only [List.setIfInBounds_toArray, List.set_cons_zero, List.set_cons_succ]
    refine wpAnyH_tkS2 (i := 9) 119 (v := ?_) rfl rfl (by kernel_rfl) (by kernel_rfl) (by kernel_rfl) (by rfl) hSw (fun wq hwq => ?_) ?_
    rotate_left
    · (have hx := HCC.out wq hwq; go_simp <;> with_reducible rfl)
    simp only [List.setIfInBounds_toArray, List.set_cons_zero, List.set_cons_succ]
    refine wpAnyH_tkS2 (i := 10) 120 (v := ?_) rfl rfl (by kernel_rfl) (by kernel_rfl) (by kernel_rfl) (by rfl) hSw (fun wq hwq => ?_) ?_
    rotate_left
    · (have hx := HCC.out wq hwq; go_simp <;> with_reducible rfl)
    simp only [List.setIfInBounds_toArray, List.set_cons_zero, List.set_cons_succ]
    refine wpAnyH_tkS2 (i := 11) 121 (v := ?_) rfl rfl (by kernel_rfl) (by kernel_rfl) (by kernel_rfl) (by rfl) hSw (fun wq hwq => ?_) ?_
    rotate_left
    · (have hx := HCC.out wq hwq; go_simp <;> with_reducible rfl)
    simp only [List.setIfInBounds_toArray, List.set_cons_zero, List.set_cons_succ]
    refine wpAnyH_tkS2 (i := 12) 122 (v := ?_) rfl rfl (by kernel_rfl) (by kernel_rfl) (by kernel_rfl) (by rfl) hSw (fun wq hwq => ?_) ?_
    rotate_left
    · (have hx := HCC.out wq hwq; go_simp <;> with_reducible rfl)
    simp only [List.setIfInBounds_toArray, List.set_cons_zero, List.set_cons_succ]
    refine wpAnyH_oneS2 (i := 13) rfl (by kernel_rfl) (by rfl) (fun K hK => ?_)
    go_simp
    refine hK.out _ _ (fun x => Below w0.heap.size w0 x) (fun _ h => h) ((hSw.alloc hSw.size (.cells #[.int .i64 p.1, .int .i64 p.2] 3))) ?_
    clear hK K
    refine wpAnyH_oneS2 (i := 14) rfl (by kernel_rfl) (by rfl) (fun K hK => ?_)
    go_simp
    refine (nums_own _ _ 2 _ _ rfl HI.out (by omega)).mono ?_
    rintro e v1 ⟨g1, c1, rfl, ho1, hb0⟩
    have hb1 := (below_one wd (.cells #[.int .i64 p.1, .int .i64 p.2] 3)).trans (hb0.mono (by simp))
    have hSw2 : Below w0.heap.size w0 v1 := hSw.trans (hb1.mono hSw.size)
    have HO1 := Lib.hid (HOd.out.chg (gs := []) (Chg.of_below hb1) (by simp))
    have HS1 := Lib.hid ho1.seenAt
    have hgl := HO1.out.lt.1
    clear ho1 hb1 hb0 HI HOd
    generalize hq : (encs [p.1, p.2]).length = qq at *
    have HQP := Lib.hid hq
    clear hq
    refine hK.out _ _ (fun x => Below w0.heap.size w0 x) (fun _ h => h) (hSw2) ?_
    clear hK K
    refine wpAnyH_oneS2 (i := 15) rfl (by kernel_rfl) (by rfl) (fun K hK => ?_)
    refine wp_appB (.tmp 110) (.tmp 124) rfl w0.heap.size g c (A8 ++ encL encSr (r.m.srcs.take k)) (encs [p.1, p.2]) (by rw [HQA.out]; rfl) HO1.out _ _ (by rw [HQP.out]; rfl) HS1.out (by have h1 := HBD.out; have h2 := HQP.out; have h3 := HQA.out; simp only [List.length_append] at h1 h2 h3 ⊢; omega) hSw2.size ?_
    intro g2 c2 v2 ho2 chg2 hg2
    have HE : Hid (Below w0.heap.size w0 v2) := chg2.below hSw2 hSw2.size (by simp; omega)
    have HO := Lib.hid ho2
    clear ho2 chg2 hg2 HO1 HS1 hgl hSw hSw2
    rw [← HN.out] at HO ⊢
    go_simp
    refine hK.out _ _ (fun x => Below w0.heap.size w0 x) (fun _ h => h) (HE.out) ?_
    clear hK K
    have hSw := HE.out
    refine wpAnyH_tkS2 (i := 16) 3 (v := ?_) rfl rfl (by kernel_rfl) (by kernel_rfl) (by kernel_rfl) (by rfl) hSw (fun wq hwq => ?_) ?_
    rotate_left
    · (have hx := True.intro; go_simp <;> with_reducible rfl)
    simp only [List.setIfInBounds_toArray, List.set_cons_zero, List.set_cons_succ]
    refine wpAnyH_done (by kernel_rfl) ?_ _
    refine NoPanic.normal ?_
    go_wp2
    go_roundw
    case rel => exact ⟨k + 1, g2, c2, by omega, by go_num, by rw [List.length_append], HO, HE⟩
    case measure => simp [intOf]; omega
  have hkl : k = r.sl := by omega
  have HTK : Hid (r.m.srcs.take k = r.m.srcs) := List.take_of_length_le (by rw [HLF.out]; omega)
  rw [HTK.out, Hf6.out] at HO ⊢
  have HT2 : Hid (TB = (A8 ++ f6) ++ (p7 ++ [])) := by show _ = _; rw [HT.out]; simp only [List.append_assoc]
  clear HT HTK HLF
  have HT := HT2
  clear HT2
  generalize A8 ++ f6 = A9 at *
  generalize hq : A9.length = qA9 at *
  have HQA9 := Lib.hid hq
  clear hq
  subst hkl
  skip
  rename_i wr
  go_wp2_with fail
  refine (many_own _ _ _ r.m.ents _ HM0.out.nl (HM0.out.below HE.out).ents hln HEN.out).mono ?_
  rintro e v7 ⟨g7, c7, rfl, ho1, hb1⟩
  rw [Hp7.out] at ho1 ⊢
  clear x0 x1 x2 x3 x4 x5 x6 x7 x8 x9 x10 x11 x12 x13 x14 x15 x16 x17 x18
  have HE1 := Lib.hid (HE.out.trans (hb1.mono HE.out.size))
  have HO1 := Lib.hid (HO.out.chg (gs := []) (Chg.of_below hb1) (by simp))
  have HS1 := Lib.hid ho1.seenAt
  have hgl := HO1.out.lt.1
  clear ho1 hb1 HE HO
  have HBD : Hid (A9.length + p7.length ≤ 1000000000) := by have h1 := part1_len HT.out HLT.out; have h2 := HLB.out; show _ ≤ _; omega
  have HT2 : Hid (TB = (A9 ++ p7) ++ []) := by show _ = _; rw [HT.out]; simp only [List.append_assoc]
  generalize hq : p7.length = qq at *
  have HQP := Lib.hid hq
  clear hq
  go_wp2_with (at_builtin; refine wpList_appB rfl (.tmp 126) (.tmp 129) rfl w0.heap.size g c A9 p7 (by rw [HQA9.out]; rfl) HO1.out _ _ (by rw [HQP.out]; rfl) HS1.out (by rw [HQP.out]; exact HBD.out) HE1.out.size ?_; intro g7' c7' v7' ho2 chg2 hg2; have HE : Hid (Below w0.heap.size w0 v7') := (chg2.below HE1.out HE1.out.size (by simp; omega)); have HO8 := Lib.hid ho2; clear ho2 chg2 hg2 HE1 HO1 HS1 hgl HBD HT HQP; generalize A9 ++ p7 = A10 at *; generalize hq : A10.length = q7 at *; have HQ7 := Lib.hid hq; clear hq; obtain ⟨x0, x1, x2, x3, x4, x5, x6, x7, x8, x9, x10, x11, x12, x13, x14, x15, x16, x17, x18⟩ := box19 (HX0.out.below HE.out))
  have HT := HT2
  clear HT2
  rw [List.append_nil] at HT
  have HTA := HT
  have HSA := Lib.hid HO8.out.seenAt
  have hbl : q7 ≤ 1700000 := by have h1 := HLB.out; have h2 := HLT.out; have h3 := HQ7.out; rw [HT.out] at h2; omega
  refine (refOf_any _ _ _ A10 _ HQ7.out (by omega) HSA.out).mono ?_
  rintro e v20 ⟨rfl, hb1⟩
  have HCS : Hid (Crc.sum A10 < 4294967296) := Crc.sum_lt _ HSA.out.byte
  have HE1 := Lib.hid (HE.out.trans (hb1.mono HE.out.size))
  have HO1 := Lib.hid (HO8.out.chg (gs := []) (Chg.of_below hb1) (by simp))
  clear hb1 HE HSA HO8 x0 x1 x2 x3 x4 x5 x6 x7 x8 x9 x10 x11 x12 x13 x14 x15 x16 x17 x18
  have HCN := HCS.out
  have HFIN : Hid (A10 ++ be4 (Crc.sum A10) = encMg r.m) := by show _ = _; rw [← HT.out]; exact HENC.out
  generalize Crc.sum A10 = S at *
  have HSL := Lib.hid (lit_be4 S HCN v20 v20.heap.size rfl)
  have HO2 := Lib.hid (HO1.out.chg (gs := []) (Chg.of_below (below_one v20 (.cells #[Value.int IntKind.u8 ((S : Int) / 16777216), Value.int IntKind.u8 ((S : Int) / 65536 % 256), Value.int IntKind.u8 ((S : Int) / 256 % 256), Value.int IntKind.u8 ((S : Int) % 256)] 5))) (by simp))
  have HE2 := Lib.hid (HE1.out.alloc HE1.out.size (.cells #[Value.int IntKind.u8 ((S : Int) / 16777216), Value.int IntKind.u8 ((S : Int) / 65536 % 256), Value.int IntKind.u8 ((S : Int) / 256 % 256), Value.int IntKind.u8 ((S : Int) % 256)] 5))
  have hgl := HO2.out.lt.1
  go_wp2_with (at_builtin; refine wpList_appB rfl (.tmp 133) (.tmp 145) rfl w0.heap.size g7' c7' A10 (be4 S) (by rw [HQ7.out]; rfl) HO2.out _ _ rfl HSL.out (by rw [HQ7.out, be4_len]; omega) HE2.out.size ?_; intro g22 c22 v22 ho2 chg2 hg2; rw [HFIN.out] at ho2 ⊢)
  have HF : Hid (RetO w (encMg r.m) (.returned (.slice (some ⟨g22, 0, none⟩) (encMg r.m).length c22)) v22) := ⟨g22, c22, rfl, ho2.base (Nat.le_trans (Nat.le_succ _) (Nat.le_of_eq HW0.out.symm)), (HBW.out.trans ((chg2.below HE2.out HE2.out.size (by simp; omega)).mono HBW.out.size))⟩
  clear ho2 chg2 hg2
  generalize (encMg r.m).length = q22 at *
  go_wp2
  go_ret
  exact HF.out

end Go.Proofs.YtggjpjpemgpeeaaGreat
