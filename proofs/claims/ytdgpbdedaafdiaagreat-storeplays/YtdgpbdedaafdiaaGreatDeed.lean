/-
  The law's deed: what an act writes.
-/
import Derived.Test.YtdgpbdedaafdiaaGreatRefS
import Derived.Deep.DeepCutAuto
namespace Go.Proofs.YtdgpbdedaafdiaaGreat
open Go.RowKit



/-- What deed answers. -/
def RetDe (M : List Nat) (w : World) (p : Pr) (rep : Bool) (want : Int) (wr : Bool) (e : Ending) (w' : World) : Prop :=
  ∃ y : Ly, e = .returned (.tuple #[.agg #[.int .i64 p.kind, .int .i64 p.epoch, .slice y.ma p.mem.length y.mc, .int .i64 p.pos, .int .i64 p.last, .slice y.ea p.ents.length y.ec], .bool rep, .int .i64 want, .bool wr]) ∧ Rk M w' y p ∧ Below w.heap.size w w'

/-- One entry in a block of its own. -/
theorem ena_one {w : World} {M : List Nat} {B n : Nat} {e : Pe} {loc : Option Addr} {c : Nat} (hn : e.frag.length = n) (hB : Box w B #[.int .i64 e.seq, .int .i64 e.client, .int .i64 e.num, .int .i64 e.op, .string (strB e.key), .int .i64 e.size, .int .u32 (e.sum : Int), .slice loc n c])
    (hM : B ∉ M) (hlt : B < w.heap.size) (hs : Kp M w fun x => SeenAt x loc c e.frag) (hw : e.Wf) : Kp M w fun x => EnA x (some ⟨B, 0, none⟩) 1 [⟨e, loc, c⟩] := fun gs x hc hg => by
  subst hn
  have hn : B ∉ gs := fun e => by
    rcases hg B e with h | h
    · exact hM h
    · omega
  refine ⟨Nat.le_refl _, by unfold maxLen; omega, fun j u hj => ⟨B, 0, rfl, ?_⟩, fun y hy => by rw [List.mem_singleton.mp hy]; exact hs gs x hc hg, fun y hy => by rw [List.mem_singleton.mp hy]; exact hw⟩
  rw [Nat.zero_add]
  refine hc.cell (hB j u ?_) hn
  have : evals [(⟨e, loc, c⟩ : El)] = [.int .i64 e.seq, .int .i64 e.client, .int .i64 e.num, .int .i64 e.op, .string (strB e.key), .int .i64 e.size, .int .u32 (e.sum : Int), .slice loc e.frag.length c] := rfl
  rw [this] at hj
  rw [← Array.getElem?_toList]
  exact hj

theorem Rk.stage {M : List Nat} {w : World} {y : Ly} {r : Pr} (h : Rk M w y r) : Rk M w y (recStage r.epoch r.mem r.pos r.last r.ents) := ⟨h.eq, h.kp, recStage_wf h.wf⟩
theorem Rk.begin {M : List Nat} {w : World} {y : Ly} {r : Pr} (h : Rk M w y r) : Rk M w { y with ea := none, ec := 0, xs := [] } (recBegin r.epoch r.mem r.pos) := ⟨rfl, fun gs x hc hg => ⟨(h.kp gs x hc hg).1, EnA.nil x none⟩, recBegin_wf h.wf⟩
theorem rk_four {M : List Nat} {w : World} {y : Ly} {r : Pr} (h : Rk M w y r) : Rk M w y { r with kind := 4 } := ⟨h.eq, h.kp, ⟨i64_k (by simp), h.wf.epoch, h.wf.mem, h.wf.pos, h.wf.last, h.wf.ents⟩⟩
theorem rk_seal (M : List Nat) (w : World) : Rk M w ly0 recSeal := ⟨rfl, fun _ x _ _ => ⟨IntsAt.nil (Nat.zero_le _), EnA.nil x none⟩, sr_wf⟩

/-- What is known of the document's store and of an act. -/
structure DeIn (M : List Nat) (w : World) (B : Nat) (m : Ss) (e : Pe) (loc : Option Addr) (c : Nat) (r : Pr) (yl : Ly) (lf lm le : Nat) : Prop where
  mo : Mo M w B m
  rk : Rk M w yl r
  seen : Kp M w fun x => SeenAt x loc c e.frag
  wf : e.Wf
  lt : ∀ g ∈ M, g < w.heap.size
  len : m.now.ents.length ≤ 1000000
  last : 0 ≤ lastS m ∧ lastS m ≤ 1099511627776
  lf_ : e.frag.length = lf
  lm_ : r.mem.length = lm
  le_ : r.ents.length = le

section
variable {M : List Nat} {w : World} {B : Nat} {m : Ss} {what n : Int} {e : Pe} {loc : Option Addr} {c lf lm le : Nat} {r : Pr} {yl : Ly}

set_option maxRecDepth 100000 in
set_option maxHeartbeats 4000000 in
theorem deed_0a (hin : DeIn M w B m e loc c r yl lf lm le) (hwh : what = 0) (hc : m.now.epoch = 0) :
    Calls Tryz.prog 6 #[.pointer (some ⟨B, 0, none⟩), .agg #[.int .i64 what, .int .i64 n, .int .i64 e.seq, .int .i64 e.client, .int .i64 e.num, .int .i64 e.op, .string (strB e.key), .int .i64 e.size, .int .u32 (e.sum : Int), .slice loc lf c, .int .i64 r.kind, .int .i64 r.epoch, .slice yl.ma lm yl.mc, .int .i64 r.pos, .int .i64 r.last, .slice yl.ea le yl.ec]] w (RetDe M w (recLog e) false 8 true) := by
  have d0 : (what == 0) = true := by rw [hwh]; rfl
  clear hwh
  obtain ⟨h, hr, hs, hw, hM, hm, hok, hlf, hlm, hle⟩ := hin
  have hs0 := hs
  have HLF := Lib.hid hlf
  have HLM := Lib.hid hlm
  have HLE := Lib.hid hle
  have HMM := Lib.hid hM
  have HB3 : Hid (Bx ((w.alloc (.cells #[.int .i64 what, .int .i64 n, .int .i64 e.seq, .int .i64 e.client, .int .i64 e.num, .int .i64 e.op, .string (strB e.key), .int .i64 e.size, .int .u32 (e.sum : Int), .slice loc lf c, .int .i64 r.kind, .int .i64 r.epoch, .slice yl.ma lm yl.mc, .int .i64 r.pos, .int .i64 r.last, .slice yl.ea le yl.ec] 43)).alloc (.cells #[.int .i64 0, .int .i64 0, .slice none 0 0, .int .i64 0, .int .i64 0, .slice none 0 0] 35)) w.heap.size 43 #[.int .i64 what, .int .i64 n, .int .i64 e.seq, .int .i64 e.client, .int .i64 e.num, .int .i64 e.op, .string (strB e.key), .int .i64 e.size, .int .u32 (e.sum : Int), .slice loc lf c, .int .i64 r.kind, .int .i64 r.epoch, .slice yl.ma lm yl.mc, .int .i64 r.pos, .int .i64 r.last, .slice yl.ea le yl.ec]) := (bx_new8 w _ 43).chg (gs := []) (Chg.of_below (below_one _ _)) (by simp)
  have HB4 : Hid (Bx ((w.alloc (.cells #[.int .i64 what, .int .i64 n, .int .i64 e.seq, .int .i64 e.client, .int .i64 e.num, .int .i64 e.op, .string (strB e.key), .int .i64 e.size, .int .u32 (e.sum : Int), .slice loc lf c, .int .i64 r.kind, .int .i64 r.epoch, .slice yl.ma lm yl.mc, .int .i64 r.pos, .int .i64 r.last, .slice yl.ea le yl.ec] 43)).alloc (.cells #[.int .i64 0, .int .i64 0, .slice none 0 0, .int .i64 0, .int .i64 0, .slice none 0 0] 35)) (w.heap.size + 1) 35 #[.int .i64 0, .int .i64 0, .slice none 0 0, .int .i64 0, .int .i64 0, .slice none 0 0]) := by
    have := bx_new8 (w.alloc (.cells #[.int .i64 what, .int .i64 n, .int .i64 e.seq, .int .i64 e.client, .int .i64 e.num, .int .i64 e.op, .string (strB e.key), .int .i64 e.size, .int .u32 (e.sum : Int), .slice loc lf c, .int .i64 r.kind, .int .i64 r.epoch, .slice yl.ma lm yl.mc, .int .i64 r.pos, .int .i64 r.last, .slice yl.ea le yl.ec] 43)) #[.int .i64 0, .int .i64 0, .slice none 0 0, .int .i64 0, .int .i64 0, .slice none 0 0] 35
    rw [World.size_alloc] at this
    exact this
  have HE : Hid (Below w.heap.size w ((w.alloc (.cells #[.int .i64 what, .int .i64 n, .int .i64 e.seq, .int .i64 e.client, .int .i64 e.num, .int .i64 e.op, .string (strB e.key), .int .i64 e.size, .int .u32 (e.sum : Int), .slice loc lf c, .int .i64 r.kind, .int .i64 r.epoch, .slice yl.ma lm yl.mc, .int .i64 r.pos, .int .i64 r.last, .slice yl.ea le yl.ec] 43)).alloc (.cells #[.int .i64 0, .int .i64 0, .slice none 0 0, .int .i64 0, .int .i64 0, .slice none 0 0] 35))) := (below_one w _).alloc (by simp) _
  have HSZ : Hid (((w.alloc (.cells #[.int .i64 what, .int .i64 n, .int .i64 e.seq, .int .i64 e.client, .int .i64 e.num, .int .i64 e.op, .string (strB e.key), .int .i64 e.size, .int .u32 (e.sum : Int), .slice loc lf c, .int .i64 r.kind, .int .i64 r.epoch, .slice yl.ma lm yl.mc, .int .i64 r.pos, .int .i64 r.last, .slice yl.ea le yl.ec] 43)).alloc (.cells #[.int .i64 0, .int .i64 0, .slice none 0 0, .int .i64 0, .int .i64 0, .slice none 0 0] 35)).heap.size = w.heap.size + 2) := by show _ = _; simp
  have HO := Lib.hid h
  have HR := Lib.hid (hr.below HE.out)
  have HS := Lib.hid (hs.below HE.out)
  have HOK := Lib.hid hok
  have HW := Lib.hid hw
  have HBL : B < w.heap.size + 1 := by obtain ⟨_, _, h1, _⟩ := h; have := bx_lt h1.now; omega
  clear h hr hs hok hM
  go_enter Tryz.func6, Tryz.ntmps6
  go_upto_region 1 with fail
  generalize ((w.alloc (.cells #[.int .i64 what, .int .i64 n, .int .i64 e.seq, .int .i64 e.client, .int .i64 e.num, .int .i64 e.op, .string (strB e.key), .int .i64 e.size, .int .u32 (e.sum : Int), .slice loc lf c, .int .i64 r.kind, .int .i64 r.epoch, .slice yl.ma lm yl.mc, .int .i64 r.pos, .int .i64 r.last, .slice yl.ea le yl.ec] 43)).alloc (.cells #[.int .i64 0, .int .i64 0, .slice none 0 0, .int .i64 0, .int .i64 0, .slice none 0 0] 35)) = w0 at *
  have k0 := HB3.out.cell 0 (.int .i64 what) rfl
  have HS0 := Lib.hid hs0
  obtain ⟨ym, zm, h1, h2, h3⟩ := HO.out
  have HMB := Lib.hid (h1.below HE.out).now
  have c1 := HMB.out.cell 1 (.int .i64 m.now.epoch) rfl
  have c6 := HMB.out.cell 6 (.bool m.sealed) rfl
  have k2 := HB3.out.cell 2 (.int .i64 e.seq) rfl
  have k3 := HB3.out.cell 3 (.int .i64 e.client) rfl
  have k4 := HB3.out.cell 4 (.int .i64 e.num) rfl
  have k5 := HB3.out.cell 5 (.int .i64 e.op) rfl
  have k6 := HB3.out.cell 6 (.string (strB e.key)) rfl
  have k7 := HB3.out.cell 7 (.int .i64 e.size) rfl
  have k8 := HB3.out.cell 8 (.int .u32 (e.sum : Int)) rfl
  have k9 := HB3.out.cell 9 (.slice loc lf c) rfl
  have HMO := Lib.hid (HO.out.below HE.out)
  clear h1 h2 h3 HO HR c1 c6
  have dz : (m.now.epoch == 0) = true := by simp [hc]
  clear hc
  go_upto_region 4 with fail
  have hbe := below_one w0 (.cells #[.int .i64 e.seq, .int .i64 e.client, .int .i64 e.num, .int .i64 e.op, .string (strB e.key), .int .i64 e.size, .int .u32 (e.sum : Int), .slice loc lf c] 41)
  have HBE1 : Hid (Bx (w0.alloc (.cells #[.int .i64 e.seq, .int .i64 e.client, .int .i64 e.num, .int .i64 e.op, .string (strB e.key), .int .i64 e.size, .int .u32 (e.sum : Int), .slice loc lf c] 41)) w0.heap.size 41 #[.int .i64 e.seq, .int .i64 e.client, .int .i64 e.num, .int .i64 e.op, .string (strB e.key), .int .i64 e.size, .int .u32 (e.sum : Int), .slice loc lf c]) := bx_new8 _ _ _
  have hbl := below_one (w0.alloc (.cells #[.int .i64 e.seq, .int .i64 e.client, .int .i64 e.num, .int .i64 e.op, .string (strB e.key), .int .i64 e.size, .int .u32 (e.sum : Int), .slice loc lf c] 41)) (.cells #[.int .i64 1, .int .i64 0, .slice none 0 0, .int .i64 0, .int .i64 0, .slice (some ⟨w0.heap.size, 0, none⟩) 1 1] 35)
  have HRB : Hid (Bx ((w0.alloc (.cells #[.int .i64 e.seq, .int .i64 e.client, .int .i64 e.num, .int .i64 e.op, .string (strB e.key), .int .i64 e.size, .int .u32 (e.sum : Int), .slice loc lf c] 41)).alloc (.cells #[.int .i64 1, .int .i64 0, .slice none 0 0, .int .i64 0, .int .i64 0, .slice (some ⟨w0.heap.size, 0, none⟩) 1 1] 35)) (w0.heap.size + 1) 35 #[.int .i64 1, .int .i64 0, .slice none 0 0, .int .i64 0, .int .i64 0, .slice (some ⟨w0.heap.size, 0, none⟩) 1 1]) := by
    have := bx_new8 (w0.alloc (.cells #[.int .i64 e.seq, .int .i64 e.client, .int .i64 e.num, .int .i64 e.op, .string (strB e.key), .int .i64 e.size, .int .u32 (e.sum : Int), .slice loc lf c] 41)) #[.int .i64 1, .int .i64 0, .slice none 0 0, .int .i64 0, .int .i64 0, .slice (some ⟨w0.heap.size, 0, none⟩) 1 1] 35
    rw [World.size_alloc] at this
    exact this
  have HBE := Lib.hid (HBE1.out.chg (gs := []) (Chg.of_below hbl) (by simp))
  have hbb := hbe.trans (hbl.mono hbe.size)
  have HB3' := Lib.hid (HB3.out.chg (gs := []) (Chg.of_below hbb) (by simp))
  have HB4' := Lib.hid (HB4.out.chg (gs := []) (Chg.of_below hbb) (by simp))
  have HMB' := Lib.hid (HMB.out.chg (gs := []) (Chg.of_below hbb) (by simp))
  have HMO' := Lib.hid (HMO.out.below hbb)
  have HS' := Lib.hid (HS.out.below hbb)
  have HE' := Lib.hid (HE.out.trans (hbb.mono HE.out.size))
  clear hbe hbl hbb HBE1 HE HB3 HB4 HMB HMO HS k0 k2 k3 k4 k5 k6 k7 k8 k9
  have HB3 := HB3'
  have HB4 := HB4'
  have HMB := HMB'
  have HMO := HMO'
  have HS := HS'
  have HE := HE'
  clear HB3' HB4' HMB' HMO' HS' HE'
  generalize hRB : w0.heap.size = BE at *
  have HRBE := Lib.hid hRB
  clear hRB
  generalize ((w0.alloc (.cells #[.int .i64 e.seq, .int .i64 e.client, .int .i64 e.num, .int .i64 e.op, .string (strB e.key), .int .i64 e.size, .int .u32 (e.sum : Int), .slice loc lf c] 41)).alloc (.cells #[.int .i64 1, .int .i64 0, .slice none 0 0, .int .i64 0, .int .i64 0, .slice (some ⟨BE, 0, none⟩) 1 1] 35)) = w1 at *
  have c1 := HMB.out.cell 1 (.int .i64 m.now.epoch) rfl
  have c6 := HMB.out.cell 6 (.bool m.sealed) rfl
  go_wp2_with (first
    | (refine wpList_ldX 35 6 _ (BE + 1) 0 #[.int .i64 1, .int .i64 0, .slice none 0 0, .int .i64 0, .int .i64 0, .slice (some ⟨BE, 0, none⟩) 1 1] rfl rfl rfl (by kernel_rfl) (by kernel_rfl) rfl (fun j v hv => (by rw [Nat.zero_add]; exact HRB.out.cell j v hv)) ?_)
    | (refine wpList_st 35 6 (w.heap.size + 1) 0 35 #[.int .i64 1, .int .i64 0, .slice none 0 0, .int .i64 0, .int .i64 0, .slice (some ⟨BE, 0, none⟩) 1 1] #[.int .i64 0, .int .i64 0, .slice none 0 0, .int .i64 0, .int .i64 0, .slice none 0 0] #[.int .i64 1, .int .i64 0, .slice none 0 0, .int .i64 0, .int .i64 0, .slice (some ⟨BE, 0, none⟩) 1 1] _ _ rfl rfl rfl rfl rfl (by kernel_rfl) rfl HB4.out (by show 6 ≤ 6; omega) (by simp [Value.oneCell']) rfl ?_; intro w9 hb9 hc9; have HB9 := Lib.hid hb9; have HC9 := Lib.hid hc9; clear hb9 hc9))
  have q0 := HB9.out.cell 0 (.int .i64 1) rfl
  have q1 := HB9.out.cell 1 (.int .i64 0) rfl
  have q2 := HB9.out.cell 2 (.slice none 0 0) rfl
  have q3 := HB9.out.cell 3 (.int .i64 0) rfl
  have q4 := HB9.out.cell 4 (.int .i64 0) rfl
  have q5 := HB9.out.cell 5 (.slice (some ⟨BE, 0, none⟩) 1 1) rfl
  refine bodyPost_ret (v := .tuple #[.agg #[.int .i64 1, .int .i64 0, .slice none 0 0, .int .i64 0, .int .i64 0, .slice (some ⟨BE, 0, none⟩) 1 1], .bool false, .int .i64 8, .bool true]) (by simp [results, Tryz.results6, go_sem, q0, q1, q2, q3, q4, q5]) rfl ?_
  have EX9 : Below w.heap.size w w9 := HC9.out.below HE.out HE.out.size (by simp)
  exact ⟨⟨none, 0, some ⟨BE, 0, none⟩, 1, [⟨e, loc, c⟩]⟩, rfl, ⟨rfl, fun gs x hc hg => ⟨IntsAt.nil (Nat.zero_le _), ena_one HLF.out (HBE.out.chg HC9.out (by have h1 := HRBE.out; have h2 := HSZ.out; simp; omega)).cell (fun hm => by have h1 := HRBE.out; have h2 := HSZ.out; have h3 := HMM.out _ hm; omega) (bx_lt (HBE.out.chg HC9.out (by have h1 := HRBE.out; have h2 := HSZ.out; simp; omega))) (HS0.out.below EX9) HW.out gs x hc hg⟩, recLog_wf HW.out⟩, EX9⟩

set_option maxRecDepth 100000 in
set_option maxHeartbeats 4000000 in
theorem deed_0b (hin : DeIn M w B m e loc c r yl lf lm le) (hwh : what = 0) (hc : m.now.epoch ≠ 0) (hd : m.sealed = true) :
    Calls Tryz.prog 6 #[.pointer (some ⟨B, 0, none⟩), .agg #[.int .i64 what, .int .i64 n, .int .i64 e.seq, .int .i64 e.client, .int .i64 e.num, .int .i64 e.op, .string (strB e.key), .int .i64 e.size, .int .u32 (e.sum : Int), .slice loc lf c, .int .i64 r.kind, .int .i64 r.epoch, .slice yl.ma lm yl.mc, .int .i64 r.pos, .int .i64 r.last, .slice yl.ea le yl.ec]] w (RetDe M w (recLog e) false 8 true) := by
  have d0 : (what == 0) = true := by rw [hwh]; rfl
  clear hwh
  obtain ⟨h, hr, hs, hw, hM, hm, hok, hlf, hlm, hle⟩ := hin
  have hs0 := hs
  have HLF := Lib.hid hlf
  have HLM := Lib.hid hlm
  have HLE := Lib.hid hle
  have HMM := Lib.hid hM
  have HB3 : Hid (Bx ((w.alloc (.cells #[.int .i64 what, .int .i64 n, .int .i64 e.seq, .int .i64 e.client, .int .i64 e.num, .int .i64 e.op, .string (strB e.key), .int .i64 e.size, .int .u32 (e.sum : Int), .slice loc lf c, .int .i64 r.kind, .int .i64 r.epoch, .slice yl.ma lm yl.mc, .int .i64 r.pos, .int .i64 r.last, .slice yl.ea le yl.ec] 43)).alloc (.cells #[.int .i64 0, .int .i64 0, .slice none 0 0, .int .i64 0, .int .i64 0, .slice none 0 0] 35)) w.heap.size 43 #[.int .i64 what, .int .i64 n, .int .i64 e.seq, .int .i64 e.client, .int .i64 e.num, .int .i64 e.op, .string (strB e.key), .int .i64 e.size, .int .u32 (e.sum : Int), .slice loc lf c, .int .i64 r.kind, .int .i64 r.epoch, .slice yl.ma lm yl.mc, .int .i64 r.pos, .int .i64 r.last, .slice yl.ea le yl.ec]) := (bx_new8 w _ 43).chg (gs := []) (Chg.of_below (below_one _ _)) (by simp)
  have HB4 : Hid (Bx ((w.alloc (.cells #[.int .i64 what, .int .i64 n, .int .i64 e.seq, .int .i64 e.client, .int .i64 e.num, .int .i64 e.op, .string (strB e.key), .int .i64 e.size, .int .u32 (e.sum : Int), .slice loc lf c, .int .i64 r.kind, .int .i64 r.epoch, .slice yl.ma lm yl.mc, .int .i64 r.pos, .int .i64 r.last, .slice yl.ea le yl.ec] 43)).alloc (.cells #[.int .i64 0, .int .i64 0, .slice none 0 0, .int .i64 0, .int .i64 0, .slice none 0 0] 35)) (w.heap.size + 1) 35 #[.int .i64 0, .int .i64 0, .slice none 0 0, .int .i64 0, .int .i64 0, .slice none 0 0]) := by
    have := bx_new8 (w.alloc (.cells #[.int .i64 what, .int .i64 n, .int .i64 e.seq, .int .i64 e.client, .int .i64 e.num, .int .i64 e.op, .string (strB e.key), .int .i64 e.size, .int .u32 (e.sum : Int), .slice loc lf c, .int .i64 r.kind, .int .i64 r.epoch, .slice yl.ma lm yl.mc, .int .i64 r.pos, .int .i64 r.last, .slice yl.ea le yl.ec] 43)) #[.int .i64 0, .int .i64 0, .slice none 0 0, .int .i64 0, .int .i64 0, .slice none 0 0] 35
    rw [World.size_alloc] at this
    exact this
  have HE : Hid (Below w.heap.size w ((w.alloc (.cells #[.int .i64 what, .int .i64 n, .int .i64 e.seq, .int .i64 e.client, .int .i64 e.num, .int .i64 e.op, .string (strB e.key), .int .i64 e.size, .int .u32 (e.sum : Int), .slice loc lf c, .int .i64 r.kind, .int .i64 r.epoch, .slice yl.ma lm yl.mc, .int .i64 r.pos, .int .i64 r.last, .slice yl.ea le yl.ec] 43)).alloc (.cells #[.int .i64 0, .int .i64 0, .slice none 0 0, .int .i64 0, .int .i64 0, .slice none 0 0] 35))) := (below_one w _).alloc (by simp) _
  have HSZ : Hid (((w.alloc (.cells #[.int .i64 what, .int .i64 n, .int .i64 e.seq, .int .i64 e.client, .int .i64 e.num, .int .i64 e.op, .string (strB e.key), .int .i64 e.size, .int .u32 (e.sum : Int), .slice loc lf c, .int .i64 r.kind, .int .i64 r.epoch, .slice yl.ma lm yl.mc, .int .i64 r.pos, .int .i64 r.last, .slice yl.ea le yl.ec] 43)).alloc (.cells #[.int .i64 0, .int .i64 0, .slice none 0 0, .int .i64 0, .int .i64 0, .slice none 0 0] 35)).heap.size = w.heap.size + 2) := by show _ = _; simp
  have HO := Lib.hid h
  have HR := Lib.hid (hr.below HE.out)
  have HS := Lib.hid (hs.below HE.out)
  have HOK := Lib.hid hok
  have HW := Lib.hid hw
  have HBL : B < w.heap.size + 1 := by obtain ⟨_, _, h1, _⟩ := h; have := bx_lt h1.now; omega
  clear h hr hs hok hM
  go_enter Tryz.func6, Tryz.ntmps6
  go_upto_region 1 with fail
  generalize ((w.alloc (.cells #[.int .i64 what, .int .i64 n, .int .i64 e.seq, .int .i64 e.client, .int .i64 e.num, .int .i64 e.op, .string (strB e.key), .int .i64 e.size, .int .u32 (e.sum : Int), .slice loc lf c, .int .i64 r.kind, .int .i64 r.epoch, .slice yl.ma lm yl.mc, .int .i64 r.pos, .int .i64 r.last, .slice yl.ea le yl.ec] 43)).alloc (.cells #[.int .i64 0, .int .i64 0, .slice none 0 0, .int .i64 0, .int .i64 0, .slice none 0 0] 35)) = w0 at *
  have k0 := HB3.out.cell 0 (.int .i64 what) rfl
  have HS0 := Lib.hid hs0
  obtain ⟨ym, zm, h1, h2, h3⟩ := HO.out
  have HMB := Lib.hid (h1.below HE.out).now
  have c1 := HMB.out.cell 1 (.int .i64 m.now.epoch) rfl
  have c6 := HMB.out.cell 6 (.bool m.sealed) rfl
  rw [hd] at c6
  have k2 := HB3.out.cell 2 (.int .i64 e.seq) rfl
  have k3 := HB3.out.cell 3 (.int .i64 e.client) rfl
  have k4 := HB3.out.cell 4 (.int .i64 e.num) rfl
  have k5 := HB3.out.cell 5 (.int .i64 e.op) rfl
  have k6 := HB3.out.cell 6 (.string (strB e.key)) rfl
  have k7 := HB3.out.cell 7 (.int .i64 e.size) rfl
  have k8 := HB3.out.cell 8 (.int .u32 (e.sum : Int)) rfl
  have k9 := HB3.out.cell 9 (.slice loc lf c) rfl
  have HMO := Lib.hid (HO.out.below HE.out)
  clear h1 h2 h3 HO HR c1 c6
  have dz : (m.now.epoch == 0) = false := by simp [hc]
  clear hc
  go_upto_region 4 with fail
  have hbe := below_one w0 (.cells #[.int .i64 e.seq, .int .i64 e.client, .int .i64 e.num, .int .i64 e.op, .string (strB e.key), .int .i64 e.size, .int .u32 (e.sum : Int), .slice loc lf c] 41)
  have HBE1 : Hid (Bx (w0.alloc (.cells #[.int .i64 e.seq, .int .i64 e.client, .int .i64 e.num, .int .i64 e.op, .string (strB e.key), .int .i64 e.size, .int .u32 (e.sum : Int), .slice loc lf c] 41)) w0.heap.size 41 #[.int .i64 e.seq, .int .i64 e.client, .int .i64 e.num, .int .i64 e.op, .string (strB e.key), .int .i64 e.size, .int .u32 (e.sum : Int), .slice loc lf c]) := bx_new8 _ _ _
  have hbl := below_one (w0.alloc (.cells #[.int .i64 e.seq, .int .i64 e.client, .int .i64 e.num, .int .i64 e.op, .string (strB e.key), .int .i64 e.size, .int .u32 (e.sum : Int), .slice loc lf c] 41)) (.cells #[.int .i64 1, .int .i64 0, .slice none 0 0, .int .i64 0, .int .i64 0, .slice (some ⟨w0.heap.size, 0, none⟩) 1 1] 35)
  have HRB : Hid (Bx ((w0.alloc (.cells #[.int .i64 e.seq, .int .i64 e.client, .int .i64 e.num, .int .i64 e.op, .string (strB e.key), .int .i64 e.size, .int .u32 (e.sum : Int), .slice loc lf c] 41)).alloc (.cells #[.int .i64 1, .int .i64 0, .slice none 0 0, .int .i64 0, .int .i64 0, .slice (some ⟨w0.heap.size, 0, none⟩) 1 1] 35)) (w0.heap.size + 1) 35 #[.int .i64 1, .int .i64 0, .slice none 0 0, .int .i64 0, .int .i64 0, .slice (some ⟨w0.heap.size, 0, none⟩) 1 1]) := by
    have := bx_new8 (w0.alloc (.cells #[.int .i64 e.seq, .int .i64 e.client, .int .i64 e.num, .int .i64 e.op, .string (strB e.key), .int .i64 e.size, .int .u32 (e.sum : Int), .slice loc lf c] 41)) #[.int .i64 1, .int .i64 0, .slice none 0 0, .int .i64 0, .int .i64 0, .slice (some ⟨w0.heap.size, 0, none⟩) 1 1] 35
    rw [World.size_alloc] at this
    exact this
  have HBE := Lib.hid (HBE1.out.chg (gs := []) (Chg.of_below hbl) (by simp))
  have hbb := hbe.trans (hbl.mono hbe.size)
  have HB3' := Lib.hid (HB3.out.chg (gs := []) (Chg.of_below hbb) (by simp))
  have HB4' := Lib.hid (HB4.out.chg (gs := []) (Chg.of_below hbb) (by simp))
  have HMB' := Lib.hid (HMB.out.chg (gs := []) (Chg.of_below hbb) (by simp))
  have HMO' := Lib.hid (HMO.out.below hbb)
  have HS' := Lib.hid (HS.out.below hbb)
  have HE' := Lib.hid (HE.out.trans (hbb.mono HE.out.size))
  clear hbe hbl hbb HBE1 HE HB3 HB4 HMB HMO HS k0 k2 k3 k4 k5 k6 k7 k8 k9
  have HB3 := HB3'
  have HB4 := HB4'
  have HMB := HMB'
  have HMO := HMO'
  have HS := HS'
  have HE := HE'
  clear HB3' HB4' HMB' HMO' HS' HE'
  generalize hRB : w0.heap.size = BE at *
  have HRBE := Lib.hid hRB
  clear hRB
  generalize ((w0.alloc (.cells #[.int .i64 e.seq, .int .i64 e.client, .int .i64 e.num, .int .i64 e.op, .string (strB e.key), .int .i64 e.size, .int .u32 (e.sum : Int), .slice loc lf c] 41)).alloc (.cells #[.int .i64 1, .int .i64 0, .slice none 0 0, .int .i64 0, .int .i64 0, .slice (some ⟨BE, 0, none⟩) 1 1] 35)) = w1 at *
  have c1 := HMB.out.cell 1 (.int .i64 m.now.epoch) rfl
  have c6 := HMB.out.cell 6 (.bool m.sealed) rfl
  rw [hd] at c6
  go_wp2_with (first
    | (refine wpList_ldX 35 6 _ (BE + 1) 0 #[.int .i64 1, .int .i64 0, .slice none 0 0, .int .i64 0, .int .i64 0, .slice (some ⟨BE, 0, none⟩) 1 1] rfl rfl rfl (by kernel_rfl) (by kernel_rfl) rfl (fun j v hv => (by rw [Nat.zero_add]; exact HRB.out.cell j v hv)) ?_)
    | (refine wpList_st 35 6 (w.heap.size + 1) 0 35 #[.int .i64 1, .int .i64 0, .slice none 0 0, .int .i64 0, .int .i64 0, .slice (some ⟨BE, 0, none⟩) 1 1] #[.int .i64 0, .int .i64 0, .slice none 0 0, .int .i64 0, .int .i64 0, .slice none 0 0] #[.int .i64 1, .int .i64 0, .slice none 0 0, .int .i64 0, .int .i64 0, .slice (some ⟨BE, 0, none⟩) 1 1] _ _ rfl rfl rfl rfl rfl (by kernel_rfl) rfl HB4.out (by show 6 ≤ 6; omega) (by simp [Value.oneCell']) rfl ?_; intro w9 hb9 hc9; have HB9 := Lib.hid hb9; have HC9 := Lib.hid hc9; clear hb9 hc9))
  have q0 := HB9.out.cell 0 (.int .i64 1) rfl
  have q1 := HB9.out.cell 1 (.int .i64 0) rfl
  have q2 := HB9.out.cell 2 (.slice none 0 0) rfl
  have q3 := HB9.out.cell 3 (.int .i64 0) rfl
  have q4 := HB9.out.cell 4 (.int .i64 0) rfl
  have q5 := HB9.out.cell 5 (.slice (some ⟨BE, 0, none⟩) 1 1) rfl
  refine bodyPost_ret (v := .tuple #[.agg #[.int .i64 1, .int .i64 0, .slice none 0 0, .int .i64 0, .int .i64 0, .slice (some ⟨BE, 0, none⟩) 1 1], .bool false, .int .i64 8, .bool true]) (by simp [results, Tryz.results6, go_sem, q0, q1, q2, q3, q4, q5]) rfl ?_
  have EX9 : Below w.heap.size w w9 := HC9.out.below HE.out HE.out.size (by simp)
  exact ⟨⟨none, 0, some ⟨BE, 0, none⟩, 1, [⟨e, loc, c⟩]⟩, rfl, ⟨rfl, fun gs x hc hg => ⟨IntsAt.nil (Nat.zero_le _), ena_one HLF.out (HBE.out.chg HC9.out (by have h1 := HRBE.out; have h2 := HSZ.out; simp; omega)).cell (fun hm => by have h1 := HRBE.out; have h2 := HSZ.out; have h3 := HMM.out _ hm; omega) (bx_lt (HBE.out.chg HC9.out (by have h1 := HRBE.out; have h2 := HSZ.out; simp; omega))) (HS0.out.below EX9) HW.out gs x hc hg⟩, recLog_wf HW.out⟩, EX9⟩

set_option maxRecDepth 100000 in
set_option maxHeartbeats 4000000 in
theorem deed_0c (hin : DeIn M w B m e loc c r yl lf lm le) (hwh : what = 0) (hc : m.now.epoch ≠ 0) (hd : m.sealed = false) (hf : e.seq < 0) :
    Calls Tryz.prog 6 #[.pointer (some ⟨B, 0, none⟩), .agg #[.int .i64 what, .int .i64 n, .int .i64 e.seq, .int .i64 e.client, .int .i64 e.num, .int .i64 e.op, .string (strB e.key), .int .i64 e.size, .int .u32 (e.sum : Int), .slice loc lf c, .int .i64 r.kind, .int .i64 r.epoch, .slice yl.ma lm yl.mc, .int .i64 r.pos, .int .i64 r.last, .slice yl.ea le yl.ec]] w (RetDe M w (recLog e) false 3 true) := by
  have d0 : (what == 0) = true := by rw [hwh]; rfl
  clear hwh
  obtain ⟨h, hr, hs, hw, hM, hm, hok, hlf, hlm, hle⟩ := hin
  have hs0 := hs
  have HLF := Lib.hid hlf
  have HLM := Lib.hid hlm
  have HLE := Lib.hid hle
  have HMM := Lib.hid hM
  have HB3 : Hid (Bx ((w.alloc (.cells #[.int .i64 what, .int .i64 n, .int .i64 e.seq, .int .i64 e.client, .int .i64 e.num, .int .i64 e.op, .string (strB e.key), .int .i64 e.size, .int .u32 (e.sum : Int), .slice loc lf c, .int .i64 r.kind, .int .i64 r.epoch, .slice yl.ma lm yl.mc, .int .i64 r.pos, .int .i64 r.last, .slice yl.ea le yl.ec] 43)).alloc (.cells #[.int .i64 0, .int .i64 0, .slice none 0 0, .int .i64 0, .int .i64 0, .slice none 0 0] 35)) w.heap.size 43 #[.int .i64 what, .int .i64 n, .int .i64 e.seq, .int .i64 e.client, .int .i64 e.num, .int .i64 e.op, .string (strB e.key), .int .i64 e.size, .int .u32 (e.sum : Int), .slice loc lf c, .int .i64 r.kind, .int .i64 r.epoch, .slice yl.ma lm yl.mc, .int .i64 r.pos, .int .i64 r.last, .slice yl.ea le yl.ec]) := (bx_new8 w _ 43).chg (gs := []) (Chg.of_below (below_one _ _)) (by simp)
  have HB4 : Hid (Bx ((w.alloc (.cells #[.int .i64 what, .int .i64 n, .int .i64 e.seq, .int .i64 e.client, .int .i64 e.num, .int .i64 e.op, .string (strB e.key), .int .i64 e.size, .int .u32 (e.sum : Int), .slice loc lf c, .int .i64 r.kind, .int .i64 r.epoch, .slice yl.ma lm yl.mc, .int .i64 r.pos, .int .i64 r.last, .slice yl.ea le yl.ec] 43)).alloc (.cells #[.int .i64 0, .int .i64 0, .slice none 0 0, .int .i64 0, .int .i64 0, .slice none 0 0] 35)) (w.heap.size + 1) 35 #[.int .i64 0, .int .i64 0, .slice none 0 0, .int .i64 0, .int .i64 0, .slice none 0 0]) := by
    have := bx_new8 (w.alloc (.cells #[.int .i64 what, .int .i64 n, .int .i64 e.seq, .int .i64 e.client, .int .i64 e.num, .int .i64 e.op, .string (strB e.key), .int .i64 e.size, .int .u32 (e.sum : Int), .slice loc lf c, .int .i64 r.kind, .int .i64 r.epoch, .slice yl.ma lm yl.mc, .int .i64 r.pos, .int .i64 r.last, .slice yl.ea le yl.ec] 43)) #[.int .i64 0, .int .i64 0, .slice none 0 0, .int .i64 0, .int .i64 0, .slice none 0 0] 35
    rw [World.size_alloc] at this
    exact this
  have HE : Hid (Below w.heap.size w ((w.alloc (.cells #[.int .i64 what, .int .i64 n, .int .i64 e.seq, .int .i64 e.client, .int .i64 e.num, .int .i64 e.op, .string (strB e.key), .int .i64 e.size, .int .u32 (e.sum : Int), .slice loc lf c, .int .i64 r.kind, .int .i64 r.epoch, .slice yl.ma lm yl.mc, .int .i64 r.pos, .int .i64 r.last, .slice yl.ea le yl.ec] 43)).alloc (.cells #[.int .i64 0, .int .i64 0, .slice none 0 0, .int .i64 0, .int .i64 0, .slice none 0 0] 35))) := (below_one w _).alloc (by simp) _
  have HSZ : Hid (((w.alloc (.cells #[.int .i64 what, .int .i64 n, .int .i64 e.seq, .int .i64 e.client, .int .i64 e.num, .int .i64 e.op, .string (strB e.key), .int .i64 e.size, .int .u32 (e.sum : Int), .slice loc lf c, .int .i64 r.kind, .int .i64 r.epoch, .slice yl.ma lm yl.mc, .int .i64 r.pos, .int .i64 r.last, .slice yl.ea le yl.ec] 43)).alloc (.cells #[.int .i64 0, .int .i64 0, .slice none 0 0, .int .i64 0, .int .i64 0, .slice none 0 0] 35)).heap.size = w.heap.size + 2) := by show _ = _; simp
  have HO := Lib.hid h
  have HR := Lib.hid (hr.below HE.out)
  have HS := Lib.hid (hs.below HE.out)
  have HOK := Lib.hid hok
  have HW := Lib.hid hw
  have HBL : B < w.heap.size + 1 := by obtain ⟨_, _, h1, _⟩ := h; have := bx_lt h1.now; omega
  clear h hr hs hok hM
  go_enter Tryz.func6, Tryz.ntmps6
  go_upto_region 1 with fail
  generalize ((w.alloc (.cells #[.int .i64 what, .int .i64 n, .int .i64 e.seq, .int .i64 e.client, .int .i64 e.num, .int .i64 e.op, .string (strB e.key), .int .i64 e.size, .int .u32 (e.sum : Int), .slice loc lf c, .int .i64 r.kind, .int .i64 r.epoch, .slice yl.ma lm yl.mc, .int .i64 r.pos, .int .i64 r.last, .slice yl.ea le yl.ec] 43)).alloc (.cells #[.int .i64 0, .int .i64 0, .slice none 0 0, .int .i64 0, .int .i64 0, .slice none 0 0] 35)) = w0 at *
  have k0 := HB3.out.cell 0 (.int .i64 what) rfl
  have HS0 := Lib.hid hs0
  obtain ⟨ym, zm, h1, h2, h3⟩ := HO.out
  have HMB := Lib.hid (h1.below HE.out).now
  have c1 := HMB.out.cell 1 (.int .i64 m.now.epoch) rfl
  have c6 := HMB.out.cell 6 (.bool m.sealed) rfl
  rw [hd] at c6
  have k2 := HB3.out.cell 2 (.int .i64 e.seq) rfl
  have k3 := HB3.out.cell 3 (.int .i64 e.client) rfl
  have k4 := HB3.out.cell 4 (.int .i64 e.num) rfl
  have k5 := HB3.out.cell 5 (.int .i64 e.op) rfl
  have k6 := HB3.out.cell 6 (.string (strB e.key)) rfl
  have k7 := HB3.out.cell 7 (.int .i64 e.size) rfl
  have k8 := HB3.out.cell 8 (.int .u32 (e.sum : Int)) rfl
  have k9 := HB3.out.cell 9 (.slice loc lf c) rfl
  have HMO := Lib.hid (HO.out.below HE.out)
  clear h1 h2 h3 HO HR c1 c6
  have dz : (m.now.epoch == 0) = false := by simp [hc]
  clear hc
  go_upto_region 4 with fail
  have hbe := below_one w0 (.cells #[.int .i64 e.seq, .int .i64 e.client, .int .i64 e.num, .int .i64 e.op, .string (strB e.key), .int .i64 e.size, .int .u32 (e.sum : Int), .slice loc lf c] 41)
  have HBE1 : Hid (Bx (w0.alloc (.cells #[.int .i64 e.seq, .int .i64 e.client, .int .i64 e.num, .int .i64 e.op, .string (strB e.key), .int .i64 e.size, .int .u32 (e.sum : Int), .slice loc lf c] 41)) w0.heap.size 41 #[.int .i64 e.seq, .int .i64 e.client, .int .i64 e.num, .int .i64 e.op, .string (strB e.key), .int .i64 e.size, .int .u32 (e.sum : Int), .slice loc lf c]) := bx_new8 _ _ _
  have hbl := below_one (w0.alloc (.cells #[.int .i64 e.seq, .int .i64 e.client, .int .i64 e.num, .int .i64 e.op, .string (strB e.key), .int .i64 e.size, .int .u32 (e.sum : Int), .slice loc lf c] 41)) (.cells #[.int .i64 1, .int .i64 0, .slice none 0 0, .int .i64 0, .int .i64 0, .slice (some ⟨w0.heap.size, 0, none⟩) 1 1] 35)
  have HRB : Hid (Bx ((w0.alloc (.cells #[.int .i64 e.seq, .int .i64 e.client, .int .i64 e.num, .int .i64 e.op, .string (strB e.key), .int .i64 e.size, .int .u32 (e.sum : Int), .slice loc lf c] 41)).alloc (.cells #[.int .i64 1, .int .i64 0, .slice none 0 0, .int .i64 0, .int .i64 0, .slice (some ⟨w0.heap.size, 0, none⟩) 1 1] 35)) (w0.heap.size + 1) 35 #[.int .i64 1, .int .i64 0, .slice none 0 0, .int .i64 0, .int .i64 0, .slice (some ⟨w0.heap.size, 0, none⟩) 1 1]) := by
    have := bx_new8 (w0.alloc (.cells #[.int .i64 e.seq, .int .i64 e.client, .int .i64 e.num, .int .i64 e.op, .string (strB e.key), .int .i64 e.size, .int .u32 (e.sum : Int), .slice loc lf c] 41)) #[.int .i64 1, .int .i64 0, .slice none 0 0, .int .i64 0, .int .i64 0, .slice (some ⟨w0.heap.size, 0, none⟩) 1 1] 35
    rw [World.size_alloc] at this
    exact this
  have HBE := Lib.hid (HBE1.out.chg (gs := []) (Chg.of_below hbl) (by simp))
  have hbb := hbe.trans (hbl.mono hbe.size)
  have HB3' := Lib.hid (HB3.out.chg (gs := []) (Chg.of_below hbb) (by simp))
  have HB4' := Lib.hid (HB4.out.chg (gs := []) (Chg.of_below hbb) (by simp))
  have HMB' := Lib.hid (HMB.out.chg (gs := []) (Chg.of_below hbb) (by simp))
  have HMO' := Lib.hid (HMO.out.below hbb)
  have HS' := Lib.hid (HS.out.below hbb)
  have HE' := Lib.hid (HE.out.trans (hbb.mono HE.out.size))
  clear hbe hbl hbb HBE1 HE HB3 HB4 HMB HMO HS k0 k2 k3 k4 k5 k6 k7 k8 k9
  have HB3 := HB3'
  have HB4 := HB4'
  have HMB := HMB'
  have HMO := HMO'
  have HS := HS'
  have HE := HE'
  clear HB3' HB4' HMB' HMO' HS' HE'
  generalize hRB : w0.heap.size = BE at *
  have HRBE := Lib.hid hRB
  clear hRB
  generalize ((w0.alloc (.cells #[.int .i64 e.seq, .int .i64 e.client, .int .i64 e.num, .int .i64 e.op, .string (strB e.key), .int .i64 e.size, .int .u32 (e.sum : Int), .slice loc lf c] 41)).alloc (.cells #[.int .i64 1, .int .i64 0, .slice none 0 0, .int .i64 0, .int .i64 0, .slice (some ⟨BE, 0, none⟩) 1 1] 35)) = w1 at *
  have c1 := HMB.out.cell 1 (.int .i64 m.now.epoch) rfl
  have c6 := HMB.out.cell 6 (.bool m.sealed) rfl
  rw [hd] at c6
  go_upto_region 6 with fail
  clear c1 c6
  have f1 : decide (e.seq < 0) = true := decide_eq_true hf
  clear hf
  refine wp_region_ext (by kernel_rfl) ?_
  have hbd : Below w1.heap.size w1 w1.drew := Below.drew (Below.refl _ w1)
  have HRB' := Lib.hid (HRB.out.chg (gs := []) (Chg.of_below hbd) (by simp))
  have HB3' := Lib.hid (HB3.out.chg (gs := []) (Chg.of_below hbd) (by simp))
  have HB4' := Lib.hid (HB4.out.chg (gs := []) (Chg.of_below hbd) (by simp))
  have HMB' := Lib.hid (HMB.out.chg (gs := []) (Chg.of_below hbd) (by simp))
  have HBE' := Lib.hid (HBE.out.chg (gs := []) (Chg.of_below hbd) (by simp))
  have HMO' := Lib.hid (HMO.out.below hbd)
  have HE' := Lib.hid (HE.out.trans (hbd.mono HE.out.size))
  clear hbd HE HMO HRB HB3 HB4 HMB HBE
  have HRB := HRB'
  clear HRB'
  have HB3 := HB3'
  clear HB3'
  have HB4 := HB4'
  clear HB4'
  have HMB := HMB'
  clear HMB'
  have HBE := HBE'
  clear HBE'
  have HMO := HMO'
  clear HMO'
  have HE := HE'
  clear HE'
  generalize w1.drew = wd at *
  refine wpAnyH_tk (i := 0) 34 (v := ?_) rfl rfl (by kernel_rfl) (by kernel_rfl) (by kernel_rfl) (by rfl) (fun wq hwq => ?_) ?_
  rotate_left
  · (go_simp <;> with_reducible rfl)
  simp only [List.setIfInBounds_toArray, List.set_cons_zero, List.set_cons_succ]
  refine wpAnyH_tk (i := 1) 35 (v := ?_) rfl rfl (by kernel_rfl) (by kernel_rfl) (by kernel_rfl) (by rfl) (fun wq hwq => ?_) ?_
  rotate_left
  · (go_simp <;> with_reducible rfl)
  simp only [List.setIfInBounds_toArray, List.set_cons_zero, List.set_cons_succ]
  refine wpAnyH_tk (i := 2) 36 (v := ?_) rfl rfl (by kernel_rfl) (by kernel_rfl) (by kernel_rfl) (by rfl) (fun wq hwq => ?_) ?_
  rotate_left
  · (have hx := cell_later hwq (HB3.out.cell 2 (.int .i64 e.seq) rfl); go_simp <;> with_reducible rfl)
  simp only [List.setIfInBounds_toArray, List.set_cons_zero, List.set_cons_succ]
  refine wpAnyH_tk (i := 3) 37 (v := ?_) rfl rfl (by kernel_rfl) (by kernel_rfl) (by kernel_rfl) (by rfl) (fun wq hwq => ?_) ?_
  rotate_left
  · (have hx := f1; go_simp <;> with_reducible rfl)
  simp only [List.setIfInBounds_toArray, List.set_cons_zero, List.set_cons_succ]
  refine wpAnyH_tk (i := 4) 38 (v := ?_) rfl rfl (by kernel_rfl) (by kernel_rfl) (by kernel_rfl) (by rfl) (fun wq hwq => ?_) ?_
  rotate_left
  · (go_simp <;> with_reducible rfl)
  simp only [List.setIfInBounds_toArray, List.set_cons_zero, List.set_cons_succ]
  refine wpAnyH_not (i := 5) 39 rfl rfl (by kernel_rfl) (by kernel_rfl) (by kernel_rfl) (by rfl) ?_
  simp only [List.setIfInBounds_toArray, List.set_cons_zero, List.set_cons_succ]
  refine wpAnyH_not (i := 6) 40 rfl rfl (by kernel_rfl) (by kernel_rfl) (by kernel_rfl) (by rfl) ?_
  simp only [List.setIfInBounds_toArray, List.set_cons_zero, List.set_cons_succ]
  refine wpAnyH_not (i := 7) 41 rfl rfl (by kernel_rfl) (by kernel_rfl) (by kernel_rfl) (by rfl) ?_
  simp only [List.setIfInBounds_toArray, List.set_cons_zero, List.set_cons_succ]
  refine wpAnyH_not (i := 8) 42 rfl rfl (by kernel_rfl) (by kernel_rfl) (by kernel_rfl) (by rfl) ?_
  simp only [List.setIfInBounds_toArray, List.set_cons_zero, List.set_cons_succ]
  refine wpAnyH_not (i := 9) 43 rfl rfl (by kernel_rfl) (by kernel_rfl) (by kernel_rfl) (by rfl) ?_
  simp only [List.setIfInBounds_toArray, List.set_cons_zero, List.set_cons_succ]
  refine wpAnyH_not (i := 10) 44 rfl rfl (by kernel_rfl) (by kernel_rfl) (by kernel_rfl) (by rfl) ?_
  simp only [List.setIfInBounds_toArray, List.set_cons_zero, List.set_cons_succ]
  refine wpAnyH_not (i := 11) 45 rfl rfl (by kernel_rfl) (by kernel_rfl) (by kernel_rfl) (by rfl) ?_
  simp only [List.setIfInBounds_toArray, List.set_cons_zero, List.set_cons_succ]
  refine wpAnyH_tk (i := 12) 46 (v := ?_) rfl rfl (by kernel_rfl) (by kernel_rfl) (by kernel_rfl) (by rfl) (fun wq hwq => ?_) ?_
  rotate_left
  · (go_simp <;> with_reducible rfl)
  simp only [List.setIfInBounds_toArray, List.set_cons_zero, List.set_cons_succ]
  refine wpAnyH_done (by kernel_rfl) ?_ _
  refine NoPanic.normal ?_
  go_wp2_with (first
    | (refine wpList_ldX 35 6 _ (BE + 1) 0 #[.int .i64 1, .int .i64 0, .slice none 0 0, .int .i64 0, .int .i64 0, .slice (some ⟨BE, 0, none⟩) 1 1] rfl rfl rfl (by kernel_rfl) (by kernel_rfl) rfl (fun j v hv => (by rw [Nat.zero_add]; exact HRB.out.cell j v hv)) ?_)
    | (refine wpList_st 35 6 (w.heap.size + 1) 0 35 #[.int .i64 1, .int .i64 0, .slice none 0 0, .int .i64 0, .int .i64 0, .slice (some ⟨BE, 0, none⟩) 1 1] #[.int .i64 0, .int .i64 0, .slice none 0 0, .int .i64 0, .int .i64 0, .slice none 0 0] #[.int .i64 1, .int .i64 0, .slice none 0 0, .int .i64 0, .int .i64 0, .slice (some ⟨BE, 0, none⟩) 1 1] _ _ rfl rfl rfl rfl rfl (by kernel_rfl) rfl HB4.out (by show 6 ≤ 6; omega) (by simp [Value.oneCell']) rfl ?_; intro w9 hb9 hc9; have HB9 := Lib.hid hb9; have HC9 := Lib.hid hc9; clear hb9 hc9))
  have q0 := HB9.out.cell 0 (.int .i64 1) rfl
  have q1 := HB9.out.cell 1 (.int .i64 0) rfl
  have q2 := HB9.out.cell 2 (.slice none 0 0) rfl
  have q3 := HB9.out.cell 3 (.int .i64 0) rfl
  have q4 := HB9.out.cell 4 (.int .i64 0) rfl
  have q5 := HB9.out.cell 5 (.slice (some ⟨BE, 0, none⟩) 1 1) rfl
  refine bodyPost_ret (v := .tuple #[.agg #[.int .i64 1, .int .i64 0, .slice none 0 0, .int .i64 0, .int .i64 0, .slice (some ⟨BE, 0, none⟩) 1 1], .bool false, .int .i64 3, .bool true]) (by simp [results, Tryz.results6, go_sem, q0, q1, q2, q3, q4, q5]) rfl ?_
  have EX9 : Below w.heap.size w w9 := HC9.out.below HE.out HE.out.size (by simp)
  exact ⟨⟨none, 0, some ⟨BE, 0, none⟩, 1, [⟨e, loc, c⟩]⟩, rfl, ⟨rfl, fun gs x hc hg => ⟨IntsAt.nil (Nat.zero_le _), ena_one HLF.out (HBE.out.chg HC9.out (by have h1 := HRBE.out; have h2 := HSZ.out; simp; omega)).cell (fun hm => by have h1 := HRBE.out; have h2 := HSZ.out; have h3 := HMM.out _ hm; omega) (bx_lt (HBE.out.chg HC9.out (by have h1 := HRBE.out; have h2 := HSZ.out; simp; omega))) (HS0.out.below EX9) HW.out gs x hc hg⟩, recLog_wf HW.out⟩, EX9⟩

set_option maxRecDepth 100000 in
set_option maxHeartbeats 4000000 in
theorem deed_0d (hin : DeIn M w B m e loc c r yl lf lm le) (hwh : what = 0) (hc : m.now.epoch ≠ 0) (hd : m.sealed = false) (hf : Hid (¬ e.seq < 0)) (hg : Hid (e.seq ≠ lastS m + 1)) :
    Calls Tryz.prog 6 #[.pointer (some ⟨B, 0, none⟩), .agg #[.int .i64 what, .int .i64 n, .int .i64 e.seq, .int .i64 e.client, .int .i64 e.num, .int .i64 e.op, .string (strB e.key), .int .i64 e.size, .int .u32 (e.sum : Int), .slice loc lf c, .int .i64 r.kind, .int .i64 r.epoch, .slice yl.ma lm yl.mc, .int .i64 r.pos, .int .i64 r.last, .slice yl.ea le yl.ec]] w (RetDe M w (recLog e) false 3 true) := by
  have d0 : (what == 0) = true := by rw [hwh]; rfl
  clear hwh
  obtain ⟨h, hr, hs, hw, hM, hm, hok, hlf, hlm, hle⟩ := hin
  have hs0 := hs
  have HLF := Lib.hid hlf
  have HLM := Lib.hid hlm
  have HLE := Lib.hid hle
  have HMM := Lib.hid hM
  have HB3 : Hid (Bx ((w.alloc (.cells #[.int .i64 what, .int .i64 n, .int .i64 e.seq, .int .i64 e.client, .int .i64 e.num, .int .i64 e.op, .string (strB e.key), .int .i64 e.size, .int .u32 (e.sum : Int), .slice loc lf c, .int .i64 r.kind, .int .i64 r.epoch, .slice yl.ma lm yl.mc, .int .i64 r.pos, .int .i64 r.last, .slice yl.ea le yl.ec] 43)).alloc (.cells #[.int .i64 0, .int .i64 0, .slice none 0 0, .int .i64 0, .int .i64 0, .slice none 0 0] 35)) w.heap.size 43 #[.int .i64 what, .int .i64 n, .int .i64 e.seq, .int .i64 e.client, .int .i64 e.num, .int .i64 e.op, .string (strB e.key), .int .i64 e.size, .int .u32 (e.sum : Int), .slice loc lf c, .int .i64 r.kind, .int .i64 r.epoch, .slice yl.ma lm yl.mc, .int .i64 r.pos, .int .i64 r.last, .slice yl.ea le yl.ec]) := (bx_new8 w _ 43).chg (gs := []) (Chg.of_below (below_one _ _)) (by simp)
  have HB4 : Hid (Bx ((w.alloc (.cells #[.int .i64 what, .int .i64 n, .int .i64 e.seq, .int .i64 e.client, .int .i64 e.num, .int .i64 e.op, .string (strB e.key), .int .i64 e.size, .int .u32 (e.sum : Int), .slice loc lf c, .int .i64 r.kind, .int .i64 r.epoch, .slice yl.ma lm yl.mc, .int .i64 r.pos, .int .i64 r.last, .slice yl.ea le yl.ec] 43)).alloc (.cells #[.int .i64 0, .int .i64 0, .slice none 0 0, .int .i64 0, .int .i64 0, .slice none 0 0] 35)) (w.heap.size + 1) 35 #[.int .i64 0, .int .i64 0, .slice none 0 0, .int .i64 0, .int .i64 0, .slice none 0 0]) := by
    have := bx_new8 (w.alloc (.cells #[.int .i64 what, .int .i64 n, .int .i64 e.seq, .int .i64 e.client, .int .i64 e.num, .int .i64 e.op, .string (strB e.key), .int .i64 e.size, .int .u32 (e.sum : Int), .slice loc lf c, .int .i64 r.kind, .int .i64 r.epoch, .slice yl.ma lm yl.mc, .int .i64 r.pos, .int .i64 r.last, .slice yl.ea le yl.ec] 43)) #[.int .i64 0, .int .i64 0, .slice none 0 0, .int .i64 0, .int .i64 0, .slice none 0 0] 35
    rw [World.size_alloc] at this
    exact this
  have HE : Hid (Below w.heap.size w ((w.alloc (.cells #[.int .i64 what, .int .i64 n, .int .i64 e.seq, .int .i64 e.client, .int .i64 e.num, .int .i64 e.op, .string (strB e.key), .int .i64 e.size, .int .u32 (e.sum : Int), .slice loc lf c, .int .i64 r.kind, .int .i64 r.epoch, .slice yl.ma lm yl.mc, .int .i64 r.pos, .int .i64 r.last, .slice yl.ea le yl.ec] 43)).alloc (.cells #[.int .i64 0, .int .i64 0, .slice none 0 0, .int .i64 0, .int .i64 0, .slice none 0 0] 35))) := (below_one w _).alloc (by simp) _
  have HSZ : Hid (((w.alloc (.cells #[.int .i64 what, .int .i64 n, .int .i64 e.seq, .int .i64 e.client, .int .i64 e.num, .int .i64 e.op, .string (strB e.key), .int .i64 e.size, .int .u32 (e.sum : Int), .slice loc lf c, .int .i64 r.kind, .int .i64 r.epoch, .slice yl.ma lm yl.mc, .int .i64 r.pos, .int .i64 r.last, .slice yl.ea le yl.ec] 43)).alloc (.cells #[.int .i64 0, .int .i64 0, .slice none 0 0, .int .i64 0, .int .i64 0, .slice none 0 0] 35)).heap.size = w.heap.size + 2) := by show _ = _; simp
  have HO := Lib.hid h
  have HR := Lib.hid (hr.below HE.out)
  have HS := Lib.hid (hs.below HE.out)
  have HOK := Lib.hid hok
  have HW := Lib.hid hw
  have HBL : B < w.heap.size + 1 := by obtain ⟨_, _, h1, _⟩ := h; have := bx_lt h1.now; omega
  clear h hr hs hok hM
  go_enter Tryz.func6, Tryz.ntmps6
  go_upto_region 1 with fail
  generalize ((w.alloc (.cells #[.int .i64 what, .int .i64 n, .int .i64 e.seq, .int .i64 e.client, .int .i64 e.num, .int .i64 e.op, .string (strB e.key), .int .i64 e.size, .int .u32 (e.sum : Int), .slice loc lf c, .int .i64 r.kind, .int .i64 r.epoch, .slice yl.ma lm yl.mc, .int .i64 r.pos, .int .i64 r.last, .slice yl.ea le yl.ec] 43)).alloc (.cells #[.int .i64 0, .int .i64 0, .slice none 0 0, .int .i64 0, .int .i64 0, .slice none 0 0] 35)) = w0 at *
  have k0 := HB3.out.cell 0 (.int .i64 what) rfl
  have HS0 := Lib.hid hs0
  obtain ⟨ym, zm, h1, h2, h3⟩ := HO.out
  have HMB := Lib.hid (h1.below HE.out).now
  have c1 := HMB.out.cell 1 (.int .i64 m.now.epoch) rfl
  have c6 := HMB.out.cell 6 (.bool m.sealed) rfl
  rw [hd] at c6
  have k2 := HB3.out.cell 2 (.int .i64 e.seq) rfl
  have k3 := HB3.out.cell 3 (.int .i64 e.client) rfl
  have k4 := HB3.out.cell 4 (.int .i64 e.num) rfl
  have k5 := HB3.out.cell 5 (.int .i64 e.op) rfl
  have k6 := HB3.out.cell 6 (.string (strB e.key)) rfl
  have k7 := HB3.out.cell 7 (.int .i64 e.size) rfl
  have k8 := HB3.out.cell 8 (.int .u32 (e.sum : Int)) rfl
  have k9 := HB3.out.cell 9 (.slice loc lf c) rfl
  have HMO := Lib.hid (HO.out.below HE.out)
  clear h1 h2 h3 HO HR c1 c6
  have dz : (m.now.epoch == 0) = false := by simp [hc]
  clear hc
  go_upto_region 4 with fail
  have hbe := below_one w0 (.cells #[.int .i64 e.seq, .int .i64 e.client, .int .i64 e.num, .int .i64 e.op, .string (strB e.key), .int .i64 e.size, .int .u32 (e.sum : Int), .slice loc lf c] 41)
  have HBE1 : Hid (Bx (w0.alloc (.cells #[.int .i64 e.seq, .int .i64 e.client, .int .i64 e.num, .int .i64 e.op, .string (strB e.key), .int .i64 e.size, .int .u32 (e.sum : Int), .slice loc lf c] 41)) w0.heap.size 41 #[.int .i64 e.seq, .int .i64 e.client, .int .i64 e.num, .int .i64 e.op, .string (strB e.key), .int .i64 e.size, .int .u32 (e.sum : Int), .slice loc lf c]) := bx_new8 _ _ _
  have hbl := below_one (w0.alloc (.cells #[.int .i64 e.seq, .int .i64 e.client, .int .i64 e.num, .int .i64 e.op, .string (strB e.key), .int .i64 e.size, .int .u32 (e.sum : Int), .slice loc lf c] 41)) (.cells #[.int .i64 1, .int .i64 0, .slice none 0 0, .int .i64 0, .int .i64 0, .slice (some ⟨w0.heap.size, 0, none⟩) 1 1] 35)
  have HRB : Hid (Bx ((w0.alloc (.cells #[.int .i64 e.seq, .int .i64 e.client, .int .i64 e.num, .int .i64 e.op, .string (strB e.key), .int .i64 e.size, .int .u32 (e.sum : Int), .slice loc lf c] 41)).alloc (.cells #[.int .i64 1, .int .i64 0, .slice none 0 0, .int .i64 0, .int .i64 0, .slice (some ⟨w0.heap.size, 0, none⟩) 1 1] 35)) (w0.heap.size + 1) 35 #[.int .i64 1, .int .i64 0, .slice none 0 0, .int .i64 0, .int .i64 0, .slice (some ⟨w0.heap.size, 0, none⟩) 1 1]) := by
    have := bx_new8 (w0.alloc (.cells #[.int .i64 e.seq, .int .i64 e.client, .int .i64 e.num, .int .i64 e.op, .string (strB e.key), .int .i64 e.size, .int .u32 (e.sum : Int), .slice loc lf c] 41)) #[.int .i64 1, .int .i64 0, .slice none 0 0, .int .i64 0, .int .i64 0, .slice (some ⟨w0.heap.size, 0, none⟩) 1 1] 35
    rw [World.size_alloc] at this
    exact this
  have HBE := Lib.hid (HBE1.out.chg (gs := []) (Chg.of_below hbl) (by simp))
  have hbb := hbe.trans (hbl.mono hbe.size)
  have HB3' := Lib.hid (HB3.out.chg (gs := []) (Chg.of_below hbb) (by simp))
  have HB4' := Lib.hid (HB4.out.chg (gs := []) (Chg.of_below hbb) (by simp))
  have HMB' := Lib.hid (HMB.out.chg (gs := []) (Chg.of_below hbb) (by simp))
  have HMO' := Lib.hid (HMO.out.below hbb)
  have HS' := Lib.hid (HS.out.below hbb)
  have HE' := Lib.hid (HE.out.trans (hbb.mono HE.out.size))
  clear hbe hbl hbb HBE1 HE HB3 HB4 HMB HMO HS k0 k2 k3 k4 k5 k6 k7 k8 k9
  have HB3 := HB3'
  have HB4 := HB4'
  have HMB := HMB'
  have HMO := HMO'
  have HS := HS'
  have HE := HE'
  clear HB3' HB4' HMB' HMO' HS' HE'
  generalize hRB : w0.heap.size = BE at *
  have HRBE := Lib.hid hRB
  clear hRB
  generalize ((w0.alloc (.cells #[.int .i64 e.seq, .int .i64 e.client, .int .i64 e.num, .int .i64 e.op, .string (strB e.key), .int .i64 e.size, .int .u32 (e.sum : Int), .slice loc lf c] 41)).alloc (.cells #[.int .i64 1, .int .i64 0, .slice none 0 0, .int .i64 0, .int .i64 0, .slice (some ⟨BE, 0, none⟩) 1 1] 35)) = w1 at *
  have c1 := HMB.out.cell 1 (.int .i64 m.now.epoch) rfl
  have c6 := HMB.out.cell 6 (.bool m.sealed) rfl
  rw [hd] at c6
  go_upto_region 6 with fail
  clear c1 c6
  have f1 : decide (e.seq < 0) = false := decide_eq_false hf.out
  have f2 : (e.seq != lastS m + 1) = true := by simp [hg.out]
  clear hf hg
  have hq1 := HOK.out.1
  have hq2 := HOK.out.2
  have f3 : IntKind.i64.wrap (lastS m + 1) = lastS m + 1 := wrap_same (by omega)
  clear hq1 hq2
  refine wp_region_ext (by kernel_rfl) ?_
  have hbd : Below w1.heap.size w1 w1.drew := Below.drew (Below.refl _ w1)
  have HRB' := Lib.hid (HRB.out.chg (gs := []) (Chg.of_below hbd) (by simp))
  have HB3' := Lib.hid (HB3.out.chg (gs := []) (Chg.of_below hbd) (by simp))
  have HB4' := Lib.hid (HB4.out.chg (gs := []) (Chg.of_below hbd) (by simp))
  have HMB' := Lib.hid (HMB.out.chg (gs := []) (Chg.of_below hbd) (by simp))
  have HBE' := Lib.hid (HBE.out.chg (gs := []) (Chg.of_below hbd) (by simp))
  have HMO' := Lib.hid (HMO.out.below hbd)
  have HE' := Lib.hid (HE.out.trans (hbd.mono HE.out.size))
  clear hbd HE HMO HRB HB3 HB4 HMB HBE
  have HRB := HRB'
  clear HRB'
  have HB3 := HB3'
  clear HB3'
  have HB4 := HB4'
  clear HB4'
  have HMB := HMB'
  clear HMB'
  have HBE := HBE'
  clear HBE'
  have HMO := HMO'
  clear HMO'
  have HE := HE'
  clear HE'
  generalize w1.drew = wd at *
  refine wpAnyH_tk (i := 0) 34 (v := ?_) rfl rfl (by kernel_rfl) (by kernel_rfl) (by kernel_rfl) (by rfl) (fun wq hwq => ?_) ?_
  rotate_left
  · (go_simp <;> with_reducible rfl)
  simp only [List.setIfInBounds_toArray, List.set_cons_zero, List.set_cons_succ]
  refine wpAnyH_tk (i := 1) 35 (v := ?_) rfl rfl (by kernel_rfl) (by kernel_rfl) (by kernel_rfl) (by rfl) (fun wq hwq => ?_) ?_
  rotate_left
  · (go_simp <;> with_reducible rfl)
  simp only [List.setIfInBounds_toArray, List.set_cons_zero, List.set_cons_succ]
  refine wpAnyH_tk (i := 2) 36 (v := ?_) rfl rfl (by kernel_rfl) (by kernel_rfl) (by kernel_rfl) (by rfl) (fun wq hwq => ?_) ?_
  rotate_left
  · (have hx := cell_later hwq (HB3.out.cell 2 (.int .i64 e.seq) rfl); go_simp <;> with_reducible rfl)
  simp only [List.setIfInBounds_toArray, List.set_cons_zero, List.set_cons_succ]
  refine wpAnyH_tk (i := 3) 37 (v := ?_) rfl rfl (by kernel_rfl) (by kernel_rfl) (by kernel_rfl) (by rfl) (fun wq hwq => ?_) ?_
  rotate_left
  · (have hx := f1; go_simp <;> with_reducible rfl)
  simp only [List.setIfInBounds_toArray, List.set_cons_zero, List.set_cons_succ]
  refine wpAnyH_tk (i := 4) 38 (v := ?_) rfl rfl (by kernel_rfl) (by kernel_rfl) (by kernel_rfl) (by rfl) (fun wq hwq => ?_) ?_
  rotate_left
  · (go_simp <;> with_reducible rfl)
  simp only [List.setIfInBounds_toArray, List.set_cons_zero, List.set_cons_succ]
  refine wpAnyH_tk (i := 5) 39 (v := ?_) rfl rfl (by kernel_rfl) (by kernel_rfl) (by kernel_rfl) (by rfl) (fun wq hwq => ?_) ?_
  rotate_left
  · (go_simp <;> with_reducible rfl)
  simp only [List.setIfInBounds_toArray, List.set_cons_zero, List.set_cons_succ]
  refine wpAnyH_tk (i := 6) 40 (v := ?_) rfl rfl (by kernel_rfl) (by kernel_rfl) (by kernel_rfl) (by rfl) (fun wq hwq => ?_) ?_
  rotate_left
  · (go_simp <;> with_reducible rfl)
  simp only [List.setIfInBounds_toArray, List.set_cons_zero, List.set_cons_succ]
  refine wpAnyH_tk (i := 7) 41 (v := ?_) rfl rfl (by kernel_rfl) (by kernel_rfl) (by kernel_rfl) (by rfl) (fun wq hwq => ?_) ?_
  rotate_left
  · (have hx := cell_later hwq (HB3.out.cell 2 (.int .i64 e.seq) rfl); go_simp <;> with_reducible rfl)
  simp only [List.setIfInBounds_toArray, List.set_cons_zero, List.set_cons_succ]
  refine wpAnyH_tk (i := 8) 42 (v := ?_) rfl rfl (by kernel_rfl) (by kernel_rfl) (by kernel_rfl) (by rfl) (fun wq hwq => ?_) ?_
  rotate_left
  · (go_simp <;> with_reducible rfl)
  simp only [List.setIfInBounds_toArray, List.set_cons_zero, List.set_cons_succ]
  refine wpAnyH_one (i := 9) rfl (by kernel_rfl) (by rfl) (fun K hK => ?_)
  go_simp
  refine (refLast_any HMO.out hm).mono ?_
  rintro x wx ⟨rfl, rfl⟩
  refine hK.out _ _ (Ext.refl _) ?_
  clear hK K
  refine wpAnyH_tk (i := 10) 44 (v := ?_) rfl rfl (by kernel_rfl) (by kernel_rfl) (by kernel_rfl) (by rfl) (fun wq hwq => ?_) ?_
  rotate_left
  · (have hx := f3; go_simp <;> with_reducible rfl)
  simp only [List.setIfInBounds_toArray, List.set_cons_zero, List.set_cons_succ]
  refine wpAnyH_tk (i := 11) 45 (v := ?_) rfl rfl (by kernel_rfl) (by kernel_rfl) (by kernel_rfl) (by rfl) (fun wq hwq => ?_) ?_
  rotate_left
  · (have hx := f2; go_simp <;> with_reducible rfl)
  simp only [List.setIfInBounds_toArray, List.set_cons_zero, List.set_cons_succ]
  refine wpAnyH_tk (i := 12) 46 (v := ?_) rfl rfl (by kernel_rfl) (by kernel_rfl) (by kernel_rfl) (by rfl) (fun wq hwq => ?_) ?_
  rotate_left
  · (go_simp <;> with_reducible rfl)
  simp only [List.setIfInBounds_toArray, List.set_cons_zero, List.set_cons_succ]
  refine wpAnyH_done (by kernel_rfl) ?_ _
  refine NoPanic.normal ?_
  go_wp2_with (first
    | (refine wpList_ldX 35 6 _ (BE + 1) 0 #[.int .i64 1, .int .i64 0, .slice none 0 0, .int .i64 0, .int .i64 0, .slice (some ⟨BE, 0, none⟩) 1 1] rfl rfl rfl (by kernel_rfl) (by kernel_rfl) rfl (fun j v hv => (by rw [Nat.zero_add]; exact HRB.out.cell j v hv)) ?_)
    | (refine wpList_st 35 6 (w.heap.size + 1) 0 35 #[.int .i64 1, .int .i64 0, .slice none 0 0, .int .i64 0, .int .i64 0, .slice (some ⟨BE, 0, none⟩) 1 1] #[.int .i64 0, .int .i64 0, .slice none 0 0, .int .i64 0, .int .i64 0, .slice none 0 0] #[.int .i64 1, .int .i64 0, .slice none 0 0, .int .i64 0, .int .i64 0, .slice (some ⟨BE, 0, none⟩) 1 1] _ _ rfl rfl rfl rfl rfl (by kernel_rfl) rfl HB4.out (by show 6 ≤ 6; omega) (by simp [Value.oneCell']) rfl ?_; intro w9 hb9 hc9; have HB9 := Lib.hid hb9; have HC9 := Lib.hid hc9; clear hb9 hc9))
  have q0 := HB9.out.cell 0 (.int .i64 1) rfl
  have q1 := HB9.out.cell 1 (.int .i64 0) rfl
  have q2 := HB9.out.cell 2 (.slice none 0 0) rfl
  have q3 := HB9.out.cell 3 (.int .i64 0) rfl
  have q4 := HB9.out.cell 4 (.int .i64 0) rfl
  have q5 := HB9.out.cell 5 (.slice (some ⟨BE, 0, none⟩) 1 1) rfl
  refine bodyPost_ret (v := .tuple #[.agg #[.int .i64 1, .int .i64 0, .slice none 0 0, .int .i64 0, .int .i64 0, .slice (some ⟨BE, 0, none⟩) 1 1], .bool false, .int .i64 3, .bool true]) (by simp [results, Tryz.results6, go_sem, q0, q1, q2, q3, q4, q5]) rfl ?_
  have EX9 : Below w.heap.size w w9 := HC9.out.below HE.out HE.out.size (by simp)
  exact ⟨⟨none, 0, some ⟨BE, 0, none⟩, 1, [⟨e, loc, c⟩]⟩, rfl, ⟨rfl, fun gs x hc hg => ⟨IntsAt.nil (Nat.zero_le _), ena_one HLF.out (HBE.out.chg HC9.out (by have h1 := HRBE.out; have h2 := HSZ.out; simp; omega)).cell (fun hm => by have h1 := HRBE.out; have h2 := HSZ.out; have h3 := HMM.out _ hm; omega) (bx_lt (HBE.out.chg HC9.out (by have h1 := HRBE.out; have h2 := HSZ.out; simp; omega))) (HS0.out.below EX9) HW.out gs x hc hg⟩, recLog_wf HW.out⟩, EX9⟩

set_option maxRecDepth 100000 in
set_option maxHeartbeats 4000000 in
theorem deed_0e (hin : DeIn M w B m e loc c r yl lf lm le) (hwh : what = 0) (hc : m.now.epoch ≠ 0) (hd : m.sealed = false) (hf : Hid (¬ e.seq < 0)) (hg : Hid (e.seq = lastS m + 1)) :
    Calls Tryz.prog 6 #[.pointer (some ⟨B, 0, none⟩), .agg #[.int .i64 what, .int .i64 n, .int .i64 e.seq, .int .i64 e.client, .int .i64 e.num, .int .i64 e.op, .string (strB e.key), .int .i64 e.size, .int .u32 (e.sum : Int), .slice loc lf c, .int .i64 r.kind, .int .i64 r.epoch, .slice yl.ma lm yl.mc, .int .i64 r.pos, .int .i64 r.last, .slice yl.ea le yl.ec]] w (RetDe M w (recLog e) false 0 true) := by
  have d0 : (what == 0) = true := by rw [hwh]; rfl
  clear hwh
  obtain ⟨h, hr, hs, hw, hM, hm, hok, hlf, hlm, hle⟩ := hin
  have hs0 := hs
  have HLF := Lib.hid hlf
  have HLM := Lib.hid hlm
  have HLE := Lib.hid hle
  have HMM := Lib.hid hM
  have HB3 : Hid (Bx ((w.alloc (.cells #[.int .i64 what, .int .i64 n, .int .i64 e.seq, .int .i64 e.client, .int .i64 e.num, .int .i64 e.op, .string (strB e.key), .int .i64 e.size, .int .u32 (e.sum : Int), .slice loc lf c, .int .i64 r.kind, .int .i64 r.epoch, .slice yl.ma lm yl.mc, .int .i64 r.pos, .int .i64 r.last, .slice yl.ea le yl.ec] 43)).alloc (.cells #[.int .i64 0, .int .i64 0, .slice none 0 0, .int .i64 0, .int .i64 0, .slice none 0 0] 35)) w.heap.size 43 #[.int .i64 what, .int .i64 n, .int .i64 e.seq, .int .i64 e.client, .int .i64 e.num, .int .i64 e.op, .string (strB e.key), .int .i64 e.size, .int .u32 (e.sum : Int), .slice loc lf c, .int .i64 r.kind, .int .i64 r.epoch, .slice yl.ma lm yl.mc, .int .i64 r.pos, .int .i64 r.last, .slice yl.ea le yl.ec]) := (bx_new8 w _ 43).chg (gs := []) (Chg.of_below (below_one _ _)) (by simp)
  have HB4 : Hid (Bx ((w.alloc (.cells #[.int .i64 what, .int .i64 n, .int .i64 e.seq, .int .i64 e.client, .int .i64 e.num, .int .i64 e.op, .string (strB e.key), .int .i64 e.size, .int .u32 (e.sum : Int), .slice loc lf c, .int .i64 r.kind, .int .i64 r.epoch, .slice yl.ma lm yl.mc, .int .i64 r.pos, .int .i64 r.last, .slice yl.ea le yl.ec] 43)).alloc (.cells #[.int .i64 0, .int .i64 0, .slice none 0 0, .int .i64 0, .int .i64 0, .slice none 0 0] 35)) (w.heap.size + 1) 35 #[.int .i64 0, .int .i64 0, .slice none 0 0, .int .i64 0, .int .i64 0, .slice none 0 0]) := by
    have := bx_new8 (w.alloc (.cells #[.int .i64 what, .int .i64 n, .int .i64 e.seq, .int .i64 e.client, .int .i64 e.num, .int .i64 e.op, .string (strB e.key), .int .i64 e.size, .int .u32 (e.sum : Int), .slice loc lf c, .int .i64 r.kind, .int .i64 r.epoch, .slice yl.ma lm yl.mc, .int .i64 r.pos, .int .i64 r.last, .slice yl.ea le yl.ec] 43)) #[.int .i64 0, .int .i64 0, .slice none 0 0, .int .i64 0, .int .i64 0, .slice none 0 0] 35
    rw [World.size_alloc] at this
    exact this
  have HE : Hid (Below w.heap.size w ((w.alloc (.cells #[.int .i64 what, .int .i64 n, .int .i64 e.seq, .int .i64 e.client, .int .i64 e.num, .int .i64 e.op, .string (strB e.key), .int .i64 e.size, .int .u32 (e.sum : Int), .slice loc lf c, .int .i64 r.kind, .int .i64 r.epoch, .slice yl.ma lm yl.mc, .int .i64 r.pos, .int .i64 r.last, .slice yl.ea le yl.ec] 43)).alloc (.cells #[.int .i64 0, .int .i64 0, .slice none 0 0, .int .i64 0, .int .i64 0, .slice none 0 0] 35))) := (below_one w _).alloc (by simp) _
  have HSZ : Hid (((w.alloc (.cells #[.int .i64 what, .int .i64 n, .int .i64 e.seq, .int .i64 e.client, .int .i64 e.num, .int .i64 e.op, .string (strB e.key), .int .i64 e.size, .int .u32 (e.sum : Int), .slice loc lf c, .int .i64 r.kind, .int .i64 r.epoch, .slice yl.ma lm yl.mc, .int .i64 r.pos, .int .i64 r.last, .slice yl.ea le yl.ec] 43)).alloc (.cells #[.int .i64 0, .int .i64 0, .slice none 0 0, .int .i64 0, .int .i64 0, .slice none 0 0] 35)).heap.size = w.heap.size + 2) := by show _ = _; simp
  have HO := Lib.hid h
  have HR := Lib.hid (hr.below HE.out)
  have HS := Lib.hid (hs.below HE.out)
  have HOK := Lib.hid hok
  have HW := Lib.hid hw
  have HBL : B < w.heap.size + 1 := by obtain ⟨_, _, h1, _⟩ := h; have := bx_lt h1.now; omega
  clear h hr hs hok hM
  go_enter Tryz.func6, Tryz.ntmps6
  go_upto_region 1 with fail
  generalize ((w.alloc (.cells #[.int .i64 what, .int .i64 n, .int .i64 e.seq, .int .i64 e.client, .int .i64 e.num, .int .i64 e.op, .string (strB e.key), .int .i64 e.size, .int .u32 (e.sum : Int), .slice loc lf c, .int .i64 r.kind, .int .i64 r.epoch, .slice yl.ma lm yl.mc, .int .i64 r.pos, .int .i64 r.last, .slice yl.ea le yl.ec] 43)).alloc (.cells #[.int .i64 0, .int .i64 0, .slice none 0 0, .int .i64 0, .int .i64 0, .slice none 0 0] 35)) = w0 at *
  have k0 := HB3.out.cell 0 (.int .i64 what) rfl
  have HS0 := Lib.hid hs0
  obtain ⟨ym, zm, h1, h2, h3⟩ := HO.out
  have HMB := Lib.hid (h1.below HE.out).now
  have c1 := HMB.out.cell 1 (.int .i64 m.now.epoch) rfl
  have c6 := HMB.out.cell 6 (.bool m.sealed) rfl
  rw [hd] at c6
  have k2 := HB3.out.cell 2 (.int .i64 e.seq) rfl
  have k3 := HB3.out.cell 3 (.int .i64 e.client) rfl
  have k4 := HB3.out.cell 4 (.int .i64 e.num) rfl
  have k5 := HB3.out.cell 5 (.int .i64 e.op) rfl
  have k6 := HB3.out.cell 6 (.string (strB e.key)) rfl
  have k7 := HB3.out.cell 7 (.int .i64 e.size) rfl
  have k8 := HB3.out.cell 8 (.int .u32 (e.sum : Int)) rfl
  have k9 := HB3.out.cell 9 (.slice loc lf c) rfl
  have HMO := Lib.hid (HO.out.below HE.out)
  clear h1 h2 h3 HO HR c1 c6
  have dz : (m.now.epoch == 0) = false := by simp [hc]
  clear hc
  go_upto_region 4 with fail
  have hbe := below_one w0 (.cells #[.int .i64 e.seq, .int .i64 e.client, .int .i64 e.num, .int .i64 e.op, .string (strB e.key), .int .i64 e.size, .int .u32 (e.sum : Int), .slice loc lf c] 41)
  have HBE1 : Hid (Bx (w0.alloc (.cells #[.int .i64 e.seq, .int .i64 e.client, .int .i64 e.num, .int .i64 e.op, .string (strB e.key), .int .i64 e.size, .int .u32 (e.sum : Int), .slice loc lf c] 41)) w0.heap.size 41 #[.int .i64 e.seq, .int .i64 e.client, .int .i64 e.num, .int .i64 e.op, .string (strB e.key), .int .i64 e.size, .int .u32 (e.sum : Int), .slice loc lf c]) := bx_new8 _ _ _
  have hbl := below_one (w0.alloc (.cells #[.int .i64 e.seq, .int .i64 e.client, .int .i64 e.num, .int .i64 e.op, .string (strB e.key), .int .i64 e.size, .int .u32 (e.sum : Int), .slice loc lf c] 41)) (.cells #[.int .i64 1, .int .i64 0, .slice none 0 0, .int .i64 0, .int .i64 0, .slice (some ⟨w0.heap.size, 0, none⟩) 1 1] 35)
  have HRB : Hid (Bx ((w0.alloc (.cells #[.int .i64 e.seq, .int .i64 e.client, .int .i64 e.num, .int .i64 e.op, .string (strB e.key), .int .i64 e.size, .int .u32 (e.sum : Int), .slice loc lf c] 41)).alloc (.cells #[.int .i64 1, .int .i64 0, .slice none 0 0, .int .i64 0, .int .i64 0, .slice (some ⟨w0.heap.size, 0, none⟩) 1 1] 35)) (w0.heap.size + 1) 35 #[.int .i64 1, .int .i64 0, .slice none 0 0, .int .i64 0, .int .i64 0, .slice (some ⟨w0.heap.size, 0, none⟩) 1 1]) := by
    have := bx_new8 (w0.alloc (.cells #[.int .i64 e.seq, .int .i64 e.client, .int .i64 e.num, .int .i64 e.op, .string (strB e.key), .int .i64 e.size, .int .u32 (e.sum : Int), .slice loc lf c] 41)) #[.int .i64 1, .int .i64 0, .slice none 0 0, .int .i64 0, .int .i64 0, .slice (some ⟨w0.heap.size, 0, none⟩) 1 1] 35
    rw [World.size_alloc] at this
    exact this
  have HBE := Lib.hid (HBE1.out.chg (gs := []) (Chg.of_below hbl) (by simp))
  have hbb := hbe.trans (hbl.mono hbe.size)
  have HB3' := Lib.hid (HB3.out.chg (gs := []) (Chg.of_below hbb) (by simp))
  have HB4' := Lib.hid (HB4.out.chg (gs := []) (Chg.of_below hbb) (by simp))
  have HMB' := Lib.hid (HMB.out.chg (gs := []) (Chg.of_below hbb) (by simp))
  have HMO' := Lib.hid (HMO.out.below hbb)
  have HS' := Lib.hid (HS.out.below hbb)
  have HE' := Lib.hid (HE.out.trans (hbb.mono HE.out.size))
  clear hbe hbl hbb HBE1 HE HB3 HB4 HMB HMO HS k0 k2 k3 k4 k5 k6 k7 k8 k9
  have HB3 := HB3'
  have HB4 := HB4'
  have HMB := HMB'
  have HMO := HMO'
  have HS := HS'
  have HE := HE'
  clear HB3' HB4' HMB' HMO' HS' HE'
  generalize hRB : w0.heap.size = BE at *
  have HRBE := Lib.hid hRB
  clear hRB
  generalize ((w0.alloc (.cells #[.int .i64 e.seq, .int .i64 e.client, .int .i64 e.num, .int .i64 e.op, .string (strB e.key), .int .i64 e.size, .int .u32 (e.sum : Int), .slice loc lf c] 41)).alloc (.cells #[.int .i64 1, .int .i64 0, .slice none 0 0, .int .i64 0, .int .i64 0, .slice (some ⟨BE, 0, none⟩) 1 1] 35)) = w1 at *
  have c1 := HMB.out.cell 1 (.int .i64 m.now.epoch) rfl
  have c6 := HMB.out.cell 6 (.bool m.sealed) rfl
  rw [hd] at c6
  go_upto_region 6 with fail
  clear c1 c6
  have f1 : decide (e.seq < 0) = false := decide_eq_false hf.out
  have f2 : (e.seq != lastS m + 1) = false := by simp [hg.out]
  clear hf hg
  have hq1 := HOK.out.1
  have hq2 := HOK.out.2
  have f3 : IntKind.i64.wrap (lastS m + 1) = lastS m + 1 := wrap_same (by omega)
  clear hq1 hq2
  refine wp_region_ext (by kernel_rfl) ?_
  have hbd : Below w1.heap.size w1 w1.drew := Below.drew (Below.refl _ w1)
  have HRB' := Lib.hid (HRB.out.chg (gs := []) (Chg.of_below hbd) (by simp))
  have HB3' := Lib.hid (HB3.out.chg (gs := []) (Chg.of_below hbd) (by simp))
  have HB4' := Lib.hid (HB4.out.chg (gs := []) (Chg.of_below hbd) (by simp))
  have HMB' := Lib.hid (HMB.out.chg (gs := []) (Chg.of_below hbd) (by simp))
  have HBE' := Lib.hid (HBE.out.chg (gs := []) (Chg.of_below hbd) (by simp))
  have HMO' := Lib.hid (HMO.out.below hbd)
  have HE' := Lib.hid (HE.out.trans (hbd.mono HE.out.size))
  clear hbd HE HMO HRB HB3 HB4 HMB HBE
  have HRB := HRB'
  clear HRB'
  have HB3 := HB3'
  clear HB3'
  have HB4 := HB4'
  clear HB4'
  have HMB := HMB'
  clear HMB'
  have HBE := HBE'
  clear HBE'
  have HMO := HMO'
  clear HMO'
  have HE := HE'
  clear HE'
  generalize w1.drew = wd at *
  refine wpAnyH_tk (i := 0) 34 (v := ?_) rfl rfl (by kernel_rfl) (by kernel_rfl) (by kernel_rfl) (by rfl) (fun wq hwq => ?_) ?_
  rotate_left
  · (go_simp <;> with_reducible rfl)
  simp only [List.setIfInBounds_toArray, List.set_cons_zero, List.set_cons_succ]
  refine wpAnyH_tk (i := 1) 35 (v := ?_) rfl rfl (by kernel_rfl) (by kernel_rfl) (by kernel_rfl) (by rfl) (fun wq hwq => ?_) ?_
  rotate_left
  · (go_simp <;> with_reducible rfl)
  simp only [List.setIfInBounds_toArray, List.set_cons_zero, List.set_cons_succ]
  refine wpAnyH_tk (i := 2) 36 (v := ?_) rfl rfl (by kernel_rfl) (by kernel_rfl) (by kernel_rfl) (by rfl) (fun wq hwq => ?_) ?_
  rotate_left
  · (have hx := cell_later hwq (HB3.out.cell 2 (.int .i64 e.seq) rfl); go_simp <;> with_reducible rfl)
  simp only [List.setIfInBounds_toArray, List.set_cons_zero, List.set_cons_succ]
  refine wpAnyH_tk (i := 3) 37 (v := ?_) rfl rfl (by kernel_rfl) (by kernel_rfl) (by kernel_rfl) (by rfl) (fun wq hwq => ?_) ?_
  rotate_left
  · (have hx := f1; go_simp <;> with_reducible rfl)
  simp only [List.setIfInBounds_toArray, List.set_cons_zero, List.set_cons_succ]
  refine wpAnyH_tk (i := 4) 38 (v := ?_) rfl rfl (by kernel_rfl) (by kernel_rfl) (by kernel_rfl) (by rfl) (fun wq hwq => ?_) ?_
  rotate_left
  · (go_simp <;> with_reducible rfl)
  simp only [List.setIfInBounds_toArray, List.set_cons_zero, List.set_cons_succ]
  refine wpAnyH_tk (i := 5) 39 (v := ?_) rfl rfl (by kernel_rfl) (by kernel_rfl) (by kernel_rfl) (by rfl) (fun wq hwq => ?_) ?_
  rotate_left
  · (go_simp <;> with_reducible rfl)
  simp only [List.setIfInBounds_toArray, List.set_cons_zero, List.set_cons_succ]
  refine wpAnyH_tk (i := 6) 40 (v := ?_) rfl rfl (by kernel_rfl) (by kernel_rfl) (by kernel_rfl) (by rfl) (fun wq hwq => ?_) ?_
  rotate_left
  · (go_simp <;> with_reducible rfl)
  simp only [List.setIfInBounds_toArray, List.set_cons_zero, List.set_cons_succ]
  refine wpAnyH_tk (i := 7) 41 (v := ?_) rfl rfl (by kernel_rfl) (by kernel_rfl) (by kernel_rfl) (by rfl) (fun wq hwq => ?_) ?_
  rotate_left
  · (have hx := cell_later hwq (HB3.out.cell 2 (.int .i64 e.seq) rfl); go_simp <;> with_reducible rfl)
  simp only [List.setIfInBounds_toArray, List.set_cons_zero, List.set_cons_succ]
  refine wpAnyH_tk (i := 8) 42 (v := ?_) rfl rfl (by kernel_rfl) (by kernel_rfl) (by kernel_rfl) (by rfl) (fun wq hwq => ?_) ?_
  rotate_left
  · (go_simp <;> with_reducible rfl)
  simp only [List.setIfInBounds_toArray, List.set_cons_zero, List.set_cons_succ]
  refine wpAnyH_one (i := 9) rfl (by kernel_rfl) (by rfl) (fun K hK => ?_)
  go_simp
  refine (refLast_any HMO.out hm).mono ?_
  rintro x wx ⟨rfl, rfl⟩
  refine hK.out _ _ (Ext.refl _) ?_
  clear hK K
  refine wpAnyH_tk (i := 10) 44 (v := ?_) rfl rfl (by kernel_rfl) (by kernel_rfl) (by kernel_rfl) (by rfl) (fun wq hwq => ?_) ?_
  rotate_left
  · (have hx := f3; go_simp <;> with_reducible rfl)
  simp only [List.setIfInBounds_toArray, List.set_cons_zero, List.set_cons_succ]
  refine wpAnyH_tk (i := 11) 45 (v := ?_) rfl rfl (by kernel_rfl) (by kernel_rfl) (by kernel_rfl) (by rfl) (fun wq hwq => ?_) ?_
  rotate_left
  · (have hx := f2; go_simp <;> with_reducible rfl)
  simp only [List.setIfInBounds_toArray, List.set_cons_zero, List.set_cons_succ]
  refine wpAnyH_tk (i := 12) 46 (v := ?_) rfl rfl (by kernel_rfl) (by kernel_rfl) (by kernel_rfl) (by rfl) (fun wq hwq => ?_) ?_
  rotate_left
  · (go_simp <;> with_reducible rfl)
  simp only [List.setIfInBounds_toArray, List.set_cons_zero, List.set_cons_succ]
  refine wpAnyH_done (by kernel_rfl) ?_ _
  refine NoPanic.normal ?_
  go_wp2_with (first
    | (refine wpList_ldX 35 6 _ (BE + 1) 0 #[.int .i64 1, .int .i64 0, .slice none 0 0, .int .i64 0, .int .i64 0, .slice (some ⟨BE, 0, none⟩) 1 1] rfl rfl rfl (by kernel_rfl) (by kernel_rfl) rfl (fun j v hv => (by rw [Nat.zero_add]; exact HRB.out.cell j v hv)) ?_)
    | (refine wpList_st 35 6 (w.heap.size + 1) 0 35 #[.int .i64 1, .int .i64 0, .slice none 0 0, .int .i64 0, .int .i64 0, .slice (some ⟨BE, 0, none⟩) 1 1] #[.int .i64 0, .int .i64 0, .slice none 0 0, .int .i64 0, .int .i64 0, .slice none 0 0] #[.int .i64 1, .int .i64 0, .slice none 0 0, .int .i64 0, .int .i64 0, .slice (some ⟨BE, 0, none⟩) 1 1] _ _ rfl rfl rfl rfl rfl (by kernel_rfl) rfl HB4.out (by show 6 ≤ 6; omega) (by simp [Value.oneCell']) rfl ?_; intro w9 hb9 hc9; have HB9 := Lib.hid hb9; have HC9 := Lib.hid hc9; clear hb9 hc9))
  have q0 := HB9.out.cell 0 (.int .i64 1) rfl
  have q1 := HB9.out.cell 1 (.int .i64 0) rfl
  have q2 := HB9.out.cell 2 (.slice none 0 0) rfl
  have q3 := HB9.out.cell 3 (.int .i64 0) rfl
  have q4 := HB9.out.cell 4 (.int .i64 0) rfl
  have q5 := HB9.out.cell 5 (.slice (some ⟨BE, 0, none⟩) 1 1) rfl
  refine bodyPost_ret (v := .tuple #[.agg #[.int .i64 1, .int .i64 0, .slice none 0 0, .int .i64 0, .int .i64 0, .slice (some ⟨BE, 0, none⟩) 1 1], .bool false, .int .i64 0, .bool true]) (by simp [results, Tryz.results6, go_sem, q0, q1, q2, q3, q4, q5]) rfl ?_
  have EX9 : Below w.heap.size w w9 := HC9.out.below HE.out HE.out.size (by simp)
  exact ⟨⟨none, 0, some ⟨BE, 0, none⟩, 1, [⟨e, loc, c⟩]⟩, rfl, ⟨rfl, fun gs x hc hg => ⟨IntsAt.nil (Nat.zero_le _), ena_one HLF.out (HBE.out.chg HC9.out (by have h1 := HRBE.out; have h2 := HSZ.out; simp; omega)).cell (fun hm => by have h1 := HRBE.out; have h2 := HSZ.out; have h3 := HMM.out _ hm; omega) (bx_lt (HBE.out.chg HC9.out (by have h1 := HRBE.out; have h2 := HSZ.out; simp; omega))) (HS0.out.below EX9) HW.out gs x hc hg⟩, recLog_wf HW.out⟩, EX9⟩


set_option maxRecDepth 100000 in
set_option maxHeartbeats 4000000 in
theorem deed_1a (hin : DeIn M w B m e loc c r yl lf lm le) (hwh : what = 1) (h0 : m.now.epoch = 0) :
    Calls Tryz.prog 6 #[.pointer (some ⟨B, 0, none⟩), .agg #[.int .i64 what, .int .i64 n, .int .i64 e.seq, .int .i64 e.client, .int .i64 e.num, .int .i64 e.op, .string (strB e.key), .int .i64 e.size, .int .u32 (e.sum : Int), .slice loc lf c, .int .i64 r.kind, .int .i64 r.epoch, .slice yl.ma lm yl.mc, .int .i64 r.pos, .int .i64 r.last, .slice yl.ea le yl.ec]] w (RetDe M w pr0 false 8 true) := by
  have d0 : (what == 0) = false := by rw [hwh]; rfl
  have d1 : (what == 1) = true := by rw [hwh]; rfl
  clear hwh
  obtain ⟨h, hr, hs, hw, hM, hm, hok, hlf, hlm, hle⟩ := hin
  have HR0 := Lib.hid hr
  have HLF := Lib.hid hlf
  have HLM := Lib.hid hlm
  have HLE := Lib.hid hle
  have HMM := Lib.hid hM
  have HB3 : Hid (Bx ((w.alloc (.cells #[.int .i64 what, .int .i64 n, .int .i64 e.seq, .int .i64 e.client, .int .i64 e.num, .int .i64 e.op, .string (strB e.key), .int .i64 e.size, .int .u32 (e.sum : Int), .slice loc lf c, .int .i64 r.kind, .int .i64 r.epoch, .slice yl.ma lm yl.mc, .int .i64 r.pos, .int .i64 r.last, .slice yl.ea le yl.ec] 43)).alloc (.cells #[.int .i64 0, .int .i64 0, .slice none 0 0, .int .i64 0, .int .i64 0, .slice none 0 0] 35)) w.heap.size 43 #[.int .i64 what, .int .i64 n, .int .i64 e.seq, .int .i64 e.client, .int .i64 e.num, .int .i64 e.op, .string (strB e.key), .int .i64 e.size, .int .u32 (e.sum : Int), .slice loc lf c, .int .i64 r.kind, .int .i64 r.epoch, .slice yl.ma lm yl.mc, .int .i64 r.pos, .int .i64 r.last, .slice yl.ea le yl.ec]) := (bx_new8 w _ 43).chg (gs := []) (Chg.of_below (below_one _ _)) (by simp)
  have HB4 : Hid (Bx ((w.alloc (.cells #[.int .i64 what, .int .i64 n, .int .i64 e.seq, .int .i64 e.client, .int .i64 e.num, .int .i64 e.op, .string (strB e.key), .int .i64 e.size, .int .u32 (e.sum : Int), .slice loc lf c, .int .i64 r.kind, .int .i64 r.epoch, .slice yl.ma lm yl.mc, .int .i64 r.pos, .int .i64 r.last, .slice yl.ea le yl.ec] 43)).alloc (.cells #[.int .i64 0, .int .i64 0, .slice none 0 0, .int .i64 0, .int .i64 0, .slice none 0 0] 35)) (w.heap.size + 1) 35 #[.int .i64 0, .int .i64 0, .slice none 0 0, .int .i64 0, .int .i64 0, .slice none 0 0]) := by
    have := bx_new8 (w.alloc (.cells #[.int .i64 what, .int .i64 n, .int .i64 e.seq, .int .i64 e.client, .int .i64 e.num, .int .i64 e.op, .string (strB e.key), .int .i64 e.size, .int .u32 (e.sum : Int), .slice loc lf c, .int .i64 r.kind, .int .i64 r.epoch, .slice yl.ma lm yl.mc, .int .i64 r.pos, .int .i64 r.last, .slice yl.ea le yl.ec] 43)) #[.int .i64 0, .int .i64 0, .slice none 0 0, .int .i64 0, .int .i64 0, .slice none 0 0] 35
    rw [World.size_alloc] at this
    exact this
  have HE : Hid (Below w.heap.size w ((w.alloc (.cells #[.int .i64 what, .int .i64 n, .int .i64 e.seq, .int .i64 e.client, .int .i64 e.num, .int .i64 e.op, .string (strB e.key), .int .i64 e.size, .int .u32 (e.sum : Int), .slice loc lf c, .int .i64 r.kind, .int .i64 r.epoch, .slice yl.ma lm yl.mc, .int .i64 r.pos, .int .i64 r.last, .slice yl.ea le yl.ec] 43)).alloc (.cells #[.int .i64 0, .int .i64 0, .slice none 0 0, .int .i64 0, .int .i64 0, .slice none 0 0] 35))) := (below_one w _).alloc (by simp) _
  have HSZ : Hid (((w.alloc (.cells #[.int .i64 what, .int .i64 n, .int .i64 e.seq, .int .i64 e.client, .int .i64 e.num, .int .i64 e.op, .string (strB e.key), .int .i64 e.size, .int .u32 (e.sum : Int), .slice loc lf c, .int .i64 r.kind, .int .i64 r.epoch, .slice yl.ma lm yl.mc, .int .i64 r.pos, .int .i64 r.last, .slice yl.ea le yl.ec] 43)).alloc (.cells #[.int .i64 0, .int .i64 0, .slice none 0 0, .int .i64 0, .int .i64 0, .slice none 0 0] 35)).heap.size = w.heap.size + 2) := by show _ = _; simp
  have HO := Lib.hid h
  have HR := Lib.hid (hr.below HE.out)
  have HS := Lib.hid (hs.below HE.out)
  have HOK := Lib.hid hok
  have HW := Lib.hid hw
  have HBL : B < w.heap.size + 1 := by obtain ⟨_, _, h1, _⟩ := h; have := bx_lt h1.now; omega
  clear h hr hs hok hM
  go_enter Tryz.func6, Tryz.ntmps6
  go_upto_region 1 with fail
  generalize ((w.alloc (.cells #[.int .i64 what, .int .i64 n, .int .i64 e.seq, .int .i64 e.client, .int .i64 e.num, .int .i64 e.op, .string (strB e.key), .int .i64 e.size, .int .u32 (e.sum : Int), .slice loc lf c, .int .i64 r.kind, .int .i64 r.epoch, .slice yl.ma lm yl.mc, .int .i64 r.pos, .int .i64 r.last, .slice yl.ea le yl.ec] 43)).alloc (.cells #[.int .i64 0, .int .i64 0, .slice none 0 0, .int .i64 0, .int .i64 0, .slice none 0 0] 35)) = w0 at *
  have k0 := HB3.out.cell 0 (.int .i64 what) rfl
  obtain ⟨ym, zm, h1, h2, h3⟩ := HO.out
  have HMB := Lib.hid (h1.below HE.out).now
  have c1 := HMB.out.cell 1 (.int .i64 m.now.epoch) rfl
  have c6 := HMB.out.cell 6 (.bool m.sealed) rfl
  clear h1 h2 h3 HO HR HS HW
  have dz : (m.now.epoch == 0) = true := by simp [h0]
  clear h0
  go_wp2_with (refine wpList_st 35 6 (w.heap.size + 1) 0 35 #[.int .i64 0, .int .i64 0, .slice none 0 0, .int .i64 0, .int .i64 0, .slice none 0 0] #[.int .i64 0, .int .i64 0, .slice none 0 0, .int .i64 0, .int .i64 0, .slice none 0 0] #[.int .i64 0, .int .i64 0, .slice none 0 0, .int .i64 0, .int .i64 0, .slice none 0 0] _ _ rfl rfl rfl rfl rfl (by kernel_rfl) rfl HB4.out (by show 6 ≤ 6; omega) (by simp [Value.oneCell']) rfl ?_; intro w9 hb9 hc9; have HB9 := Lib.hid hb9; have HC9 := Lib.hid hc9; clear hb9 hc9)
  have q0 := HB9.out.cell 0 (.int .i64 0) rfl
  have q1 := HB9.out.cell 1 (.int .i64 0) rfl
  have q2 := HB9.out.cell 2 (.slice none 0 0) rfl
  have q3 := HB9.out.cell 3 (.int .i64 0) rfl
  have q4 := HB9.out.cell 4 (.int .i64 0) rfl
  have q5 := HB9.out.cell 5 (.slice none 0 0) rfl
  refine bodyPost_ret (v := .tuple #[.agg #[.int .i64 0, .int .i64 0, .slice none 0 0, .int .i64 0, .int .i64 0, .slice none 0 0], .bool false, .int .i64 8, .bool true]) (by simp [results, Tryz.results6, go_sem, q0, q1, q2, q3, q4, q5]) rfl ?_
  have EX9 : Below w.heap.size w w9 := HC9.out.below HE.out HE.out.size (by simp)
  exact ⟨ly0, rfl, rk0 _ _, EX9⟩

set_option maxRecDepth 100000 in
set_option maxHeartbeats 4000000 in
theorem deed_1b (hin : DeIn M w B m e loc c r yl lf lm le) (hwh : what = 1) (h0 : m.now.epoch ≠ 0) :
    Calls Tryz.prog 6 #[.pointer (some ⟨B, 0, none⟩), .agg #[.int .i64 what, .int .i64 n, .int .i64 e.seq, .int .i64 e.client, .int .i64 e.num, .int .i64 e.op, .string (strB e.key), .int .i64 e.size, .int .u32 (e.sum : Int), .slice loc lf c, .int .i64 r.kind, .int .i64 r.epoch, .slice yl.ma lm yl.mc, .int .i64 r.pos, .int .i64 r.last, .slice yl.ea le yl.ec]] w (RetDe M w recSeal false 0 (!m.sealed)) := by
  have d0 : (what == 0) = false := by rw [hwh]; rfl
  have d1 : (what == 1) = true := by rw [hwh]; rfl
  clear hwh
  obtain ⟨h, hr, hs, hw, hM, hm, hok, hlf, hlm, hle⟩ := hin
  have HR0 := Lib.hid hr
  have HLF := Lib.hid hlf
  have HLM := Lib.hid hlm
  have HLE := Lib.hid hle
  have HMM := Lib.hid hM
  have HB3 : Hid (Bx ((w.alloc (.cells #[.int .i64 what, .int .i64 n, .int .i64 e.seq, .int .i64 e.client, .int .i64 e.num, .int .i64 e.op, .string (strB e.key), .int .i64 e.size, .int .u32 (e.sum : Int), .slice loc lf c, .int .i64 r.kind, .int .i64 r.epoch, .slice yl.ma lm yl.mc, .int .i64 r.pos, .int .i64 r.last, .slice yl.ea le yl.ec] 43)).alloc (.cells #[.int .i64 0, .int .i64 0, .slice none 0 0, .int .i64 0, .int .i64 0, .slice none 0 0] 35)) w.heap.size 43 #[.int .i64 what, .int .i64 n, .int .i64 e.seq, .int .i64 e.client, .int .i64 e.num, .int .i64 e.op, .string (strB e.key), .int .i64 e.size, .int .u32 (e.sum : Int), .slice loc lf c, .int .i64 r.kind, .int .i64 r.epoch, .slice yl.ma lm yl.mc, .int .i64 r.pos, .int .i64 r.last, .slice yl.ea le yl.ec]) := (bx_new8 w _ 43).chg (gs := []) (Chg.of_below (below_one _ _)) (by simp)
  have HB4 : Hid (Bx ((w.alloc (.cells #[.int .i64 what, .int .i64 n, .int .i64 e.seq, .int .i64 e.client, .int .i64 e.num, .int .i64 e.op, .string (strB e.key), .int .i64 e.size, .int .u32 (e.sum : Int), .slice loc lf c, .int .i64 r.kind, .int .i64 r.epoch, .slice yl.ma lm yl.mc, .int .i64 r.pos, .int .i64 r.last, .slice yl.ea le yl.ec] 43)).alloc (.cells #[.int .i64 0, .int .i64 0, .slice none 0 0, .int .i64 0, .int .i64 0, .slice none 0 0] 35)) (w.heap.size + 1) 35 #[.int .i64 0, .int .i64 0, .slice none 0 0, .int .i64 0, .int .i64 0, .slice none 0 0]) := by
    have := bx_new8 (w.alloc (.cells #[.int .i64 what, .int .i64 n, .int .i64 e.seq, .int .i64 e.client, .int .i64 e.num, .int .i64 e.op, .string (strB e.key), .int .i64 e.size, .int .u32 (e.sum : Int), .slice loc lf c, .int .i64 r.kind, .int .i64 r.epoch, .slice yl.ma lm yl.mc, .int .i64 r.pos, .int .i64 r.last, .slice yl.ea le yl.ec] 43)) #[.int .i64 0, .int .i64 0, .slice none 0 0, .int .i64 0, .int .i64 0, .slice none 0 0] 35
    rw [World.size_alloc] at this
    exact this
  have HE : Hid (Below w.heap.size w ((w.alloc (.cells #[.int .i64 what, .int .i64 n, .int .i64 e.seq, .int .i64 e.client, .int .i64 e.num, .int .i64 e.op, .string (strB e.key), .int .i64 e.size, .int .u32 (e.sum : Int), .slice loc lf c, .int .i64 r.kind, .int .i64 r.epoch, .slice yl.ma lm yl.mc, .int .i64 r.pos, .int .i64 r.last, .slice yl.ea le yl.ec] 43)).alloc (.cells #[.int .i64 0, .int .i64 0, .slice none 0 0, .int .i64 0, .int .i64 0, .slice none 0 0] 35))) := (below_one w _).alloc (by simp) _
  have HSZ : Hid (((w.alloc (.cells #[.int .i64 what, .int .i64 n, .int .i64 e.seq, .int .i64 e.client, .int .i64 e.num, .int .i64 e.op, .string (strB e.key), .int .i64 e.size, .int .u32 (e.sum : Int), .slice loc lf c, .int .i64 r.kind, .int .i64 r.epoch, .slice yl.ma lm yl.mc, .int .i64 r.pos, .int .i64 r.last, .slice yl.ea le yl.ec] 43)).alloc (.cells #[.int .i64 0, .int .i64 0, .slice none 0 0, .int .i64 0, .int .i64 0, .slice none 0 0] 35)).heap.size = w.heap.size + 2) := by show _ = _; simp
  have HO := Lib.hid h
  have HR := Lib.hid (hr.below HE.out)
  have HS := Lib.hid (hs.below HE.out)
  have HOK := Lib.hid hok
  have HW := Lib.hid hw
  have HBL : B < w.heap.size + 1 := by obtain ⟨_, _, h1, _⟩ := h; have := bx_lt h1.now; omega
  clear h hr hs hok hM
  go_enter Tryz.func6, Tryz.ntmps6
  go_upto_region 1 with fail
  generalize ((w.alloc (.cells #[.int .i64 what, .int .i64 n, .int .i64 e.seq, .int .i64 e.client, .int .i64 e.num, .int .i64 e.op, .string (strB e.key), .int .i64 e.size, .int .u32 (e.sum : Int), .slice loc lf c, .int .i64 r.kind, .int .i64 r.epoch, .slice yl.ma lm yl.mc, .int .i64 r.pos, .int .i64 r.last, .slice yl.ea le yl.ec] 43)).alloc (.cells #[.int .i64 0, .int .i64 0, .slice none 0 0, .int .i64 0, .int .i64 0, .slice none 0 0] 35)) = w0 at *
  have k0 := HB3.out.cell 0 (.int .i64 what) rfl
  obtain ⟨ym, zm, h1, h2, h3⟩ := HO.out
  have HMB := Lib.hid (h1.below HE.out).now
  have c1 := HMB.out.cell 1 (.int .i64 m.now.epoch) rfl
  have c6 := HMB.out.cell 6 (.bool m.sealed) rfl
  clear h1 h2 h3 HO HR HS HW
  have dz : (m.now.epoch == 0) = false := by simp [h0]
  clear h0
  go_upto_region 12 with fail
  refine wp_region_S2 (fun x => x.cell? ⟨B, 6, none⟩ = some (.bool m.sealed)) (by kernel_rfl) ?_
  have hSw : w0.drew.cell? ⟨B, 6, none⟩ = some (.bool m.sealed) := c6
  have HB4' : Hid (Bx w0.drew (w.heap.size + 1) 35 #[.int .i64 0, .int .i64 0, .slice none 0 0, .int .i64 0, .int .i64 0, .slice none 0 0]) := HB4.out.chg (gs := []) (Chg.of_below (Below.drew (Below.refl _ w0))) (by simp)
  have HE' : Hid (Below w.heap.size w w0.drew) := HE.out.drew
  have HNB : Hid (B < w.heap.size + 1) := HBL
  clear HB4 HE HB3 HMB
  generalize w0.drew = w2 at *
  refine wpAnyH_tkS2 (i := 0) 59 (v := ?_) rfl rfl (by kernel_rfl) (by kernel_rfl) (by kernel_rfl) (by rfl) hSw (fun wq hwq => ?_) ?_
  rotate_left
  · (have hx := True.intro; go_simp <;> with_reducible rfl)
  simp only [List.setIfInBounds_toArray, List.set_cons_zero, List.set_cons_succ]
  refine wpAnyH_tkS2 (i := 1) 60 (v := ?_) rfl rfl (by kernel_rfl) (by kernel_rfl) (by kernel_rfl) (by rfl) hSw (fun wq hwq => ?_) ?_
  rotate_left
  · (have hx := True.intro; go_simp <;> with_reducible rfl)
  simp only [List.setIfInBounds_toArray, List.set_cons_zero, List.set_cons_succ]
  refine wpAnyH_tkS2 (i := 2) 61 (v := ?_) rfl rfl (by kernel_rfl) (by kernel_rfl) (by kernel_rfl) (by rfl) hSw (fun wq hwq => ?_) ?_
  rotate_left
  · (have hx := True.intro; go_simp <;> with_reducible rfl)
  simp only [List.setIfInBounds_toArray, List.set_cons_zero, List.set_cons_succ]
  refine wpAnyH_tkS2 (i := 3) 62 (v := ?_) rfl rfl (by kernel_rfl) (by kernel_rfl) (by kernel_rfl) (by rfl) hSw (fun wq hwq => ?_) ?_
  rotate_left
  · (have hx := True.intro; go_simp <;> with_reducible rfl)
  simp only [List.setIfInBounds_toArray, List.set_cons_zero, List.set_cons_succ]
  refine wpAnyH_tkS2 (i := 4) 63 (v := ?_) rfl rfl (by kernel_rfl) (by kernel_rfl) (by kernel_rfl) (by rfl) hSw (fun wq hwq => ?_) ?_
  rotate_left
  · (have hx := hwq; go_simp <;> with_reducible rfl)
  simp only [List.setIfInBounds_toArray, List.set_cons_zero, List.set_cons_succ]
  refine wpAnyH_tkS2 (i := 5) 64 (v := ?_) rfl rfl (by kernel_rfl) (by kernel_rfl) (by kernel_rfl) (by rfl) hSw (fun wq hwq => ?_) ?_
  rotate_left
  · (have hx := True.intro; go_simp <;> with_reducible rfl)
  simp only [List.setIfInBounds_toArray, List.set_cons_zero, List.set_cons_succ]
  refine wpAnyH_oneS2 (i := 6) rfl (by kernel_rfl) (by rfl) (fun K hK => ?_)
  refine wp_stS 35 6 (w.heap.size + 1) 0 35 #[.int .i64 2, .int .i64 0, .slice none 0 0, .int .i64 0, .int .i64 0, .slice none 0 0] #[.int .i64 0, .int .i64 0, .slice none 0 0, .int .i64 0, .int .i64 0, .slice none 0 0] #[.int .i64 2, .int .i64 0, .slice none 0 0, .int .i64 0, .int .i64 0, .slice none 0 0] _ _ rfl rfl rfl rfl (by kernel_rfl) rfl HB4'.out (by show 6 ≤ 6; omega) (by simp [Value.oneCell']) rfl ?_
  intro w9 hb9 hc9
  have HB9 := Lib.hid hb9
  have HC9 := Lib.hid hc9
  have hS9 : w9.cell? ⟨B, 6, none⟩ = some (.bool m.sealed) := hc9.cell hSw (by have := HNB.out; simp; omega)
  clear hb9 hc9
  refine hK.out _ _ (fun x => x.cell? ⟨B, 6, none⟩ = some (.bool m.sealed)) (fun _ h => h) (hS9) ?_
  clear hK K
  clear hSw
  have hSw := hS9
  refine wpAnyH_tkS2 (i := 7) 5 (v := ?_) rfl rfl (by kernel_rfl) (by kernel_rfl) (by kernel_rfl) (by rfl) hSw (fun wq hwq => ?_) ?_
  rotate_left
  · (have hx := True.intro; go_simp <;> with_reducible rfl)
  simp only [List.setIfInBounds_toArray, List.set_cons_zero, List.set_cons_succ]
  refine wpAnyH_tkS2 (i := 8) 6 (v := ?_) rfl rfl (by kernel_rfl) (by kernel_rfl) (by kernel_rfl) (by rfl) hSw (fun wq hwq => ?_) ?_
  rotate_left
  · (have hx := True.intro; go_simp <;> with_reducible rfl)
  simp only [List.setIfInBounds_toArray, List.set_cons_zero, List.set_cons_succ]
  refine wpAnyH_tkS2 (i := 9) 7 (v := ?_) rfl rfl (by kernel_rfl) (by kernel_rfl) (by kernel_rfl) (by rfl) hSw (fun wq hwq => ?_) ?_
  rotate_left
  · (have hx := True.intro; go_simp <;> with_reducible rfl)
  simp only [List.setIfInBounds_toArray, List.set_cons_zero, List.set_cons_succ]
  refine wpAnyH_done (by kernel_rfl) ?_ _
  refine NoPanic.normal ?_
  go_wp2
  have q0 := HB9.out.cell 0 (.int .i64 2) rfl
  have q1 := HB9.out.cell 1 (.int .i64 0) rfl
  have q2 := HB9.out.cell 2 (.slice none 0 0) rfl
  have q3 := HB9.out.cell 3 (.int .i64 0) rfl
  have q4 := HB9.out.cell 4 (.int .i64 0) rfl
  have q5 := HB9.out.cell 5 (.slice none 0 0) rfl
  refine bodyPost_ret (v := .tuple #[.agg #[.int .i64 2, .int .i64 0, .slice none 0 0, .int .i64 0, .int .i64 0, .slice none 0 0], .bool false, .int .i64 0, .bool (!m.sealed)]) (by simp [results, Tryz.results6, go_sem, q0, q1, q2, q3, q4, q5]) rfl ?_
  have EX9 : Below w.heap.size w w9 := HC9.out.below HE'.out HE'.out.size (by simp)
  exact ⟨ly0, rfl, rk_seal _ _, EX9⟩


set_option maxRecDepth 100000 in
set_option maxHeartbeats 4000000 in
theorem deed_2a (hin : DeIn M w B m e loc c r yl lf lm le) (hwh : what = 2) (hc : r.epoch ≤ m.now.epoch) :
    Calls Tryz.prog 6 #[.pointer (some ⟨B, 0, none⟩), .agg #[.int .i64 what, .int .i64 n, .int .i64 e.seq, .int .i64 e.client, .int .i64 e.num, .int .i64 e.op, .string (strB e.key), .int .i64 e.size, .int .u32 (e.sum : Int), .slice loc lf c, .int .i64 r.kind, .int .i64 r.epoch, .slice yl.ma lm yl.mc, .int .i64 r.pos, .int .i64 r.last, .slice yl.ea le yl.ec]] w (RetDe M w (recStage r.epoch r.mem r.pos r.last r.ents) false 8 true) := by
  have d0 : (what == 0) = false := by rw [hwh]; rfl
  have d1 : (what == 1) = false := by rw [hwh]; rfl
  have d2 : (what == 2) = true := by rw [hwh]; rfl
  clear hwh
  obtain ⟨h, hr, hs, hw, hM, hm, hok, hlf, hlm, hle⟩ := hin
  have HR0 := Lib.hid hr
  have HLF := Lib.hid hlf
  have HLM := Lib.hid hlm
  have HLE := Lib.hid hle
  have HMM := Lib.hid hM
  have HB3 : Hid (Bx ((w.alloc (.cells #[.int .i64 what, .int .i64 n, .int .i64 e.seq, .int .i64 e.client, .int .i64 e.num, .int .i64 e.op, .string (strB e.key), .int .i64 e.size, .int .u32 (e.sum : Int), .slice loc lf c, .int .i64 r.kind, .int .i64 r.epoch, .slice yl.ma lm yl.mc, .int .i64 r.pos, .int .i64 r.last, .slice yl.ea le yl.ec] 43)).alloc (.cells #[.int .i64 0, .int .i64 0, .slice none 0 0, .int .i64 0, .int .i64 0, .slice none 0 0] 35)) w.heap.size 43 #[.int .i64 what, .int .i64 n, .int .i64 e.seq, .int .i64 e.client, .int .i64 e.num, .int .i64 e.op, .string (strB e.key), .int .i64 e.size, .int .u32 (e.sum : Int), .slice loc lf c, .int .i64 r.kind, .int .i64 r.epoch, .slice yl.ma lm yl.mc, .int .i64 r.pos, .int .i64 r.last, .slice yl.ea le yl.ec]) := (bx_new8 w _ 43).chg (gs := []) (Chg.of_below (below_one _ _)) (by simp)
  have HB4 : Hid (Bx ((w.alloc (.cells #[.int .i64 what, .int .i64 n, .int .i64 e.seq, .int .i64 e.client, .int .i64 e.num, .int .i64 e.op, .string (strB e.key), .int .i64 e.size, .int .u32 (e.sum : Int), .slice loc lf c, .int .i64 r.kind, .int .i64 r.epoch, .slice yl.ma lm yl.mc, .int .i64 r.pos, .int .i64 r.last, .slice yl.ea le yl.ec] 43)).alloc (.cells #[.int .i64 0, .int .i64 0, .slice none 0 0, .int .i64 0, .int .i64 0, .slice none 0 0] 35)) (w.heap.size + 1) 35 #[.int .i64 0, .int .i64 0, .slice none 0 0, .int .i64 0, .int .i64 0, .slice none 0 0]) := by
    have := bx_new8 (w.alloc (.cells #[.int .i64 what, .int .i64 n, .int .i64 e.seq, .int .i64 e.client, .int .i64 e.num, .int .i64 e.op, .string (strB e.key), .int .i64 e.size, .int .u32 (e.sum : Int), .slice loc lf c, .int .i64 r.kind, .int .i64 r.epoch, .slice yl.ma lm yl.mc, .int .i64 r.pos, .int .i64 r.last, .slice yl.ea le yl.ec] 43)) #[.int .i64 0, .int .i64 0, .slice none 0 0, .int .i64 0, .int .i64 0, .slice none 0 0] 35
    rw [World.size_alloc] at this
    exact this
  have HE : Hid (Below w.heap.size w ((w.alloc (.cells #[.int .i64 what, .int .i64 n, .int .i64 e.seq, .int .i64 e.client, .int .i64 e.num, .int .i64 e.op, .string (strB e.key), .int .i64 e.size, .int .u32 (e.sum : Int), .slice loc lf c, .int .i64 r.kind, .int .i64 r.epoch, .slice yl.ma lm yl.mc, .int .i64 r.pos, .int .i64 r.last, .slice yl.ea le yl.ec] 43)).alloc (.cells #[.int .i64 0, .int .i64 0, .slice none 0 0, .int .i64 0, .int .i64 0, .slice none 0 0] 35))) := (below_one w _).alloc (by simp) _
  have HSZ : Hid (((w.alloc (.cells #[.int .i64 what, .int .i64 n, .int .i64 e.seq, .int .i64 e.client, .int .i64 e.num, .int .i64 e.op, .string (strB e.key), .int .i64 e.size, .int .u32 (e.sum : Int), .slice loc lf c, .int .i64 r.kind, .int .i64 r.epoch, .slice yl.ma lm yl.mc, .int .i64 r.pos, .int .i64 r.last, .slice yl.ea le yl.ec] 43)).alloc (.cells #[.int .i64 0, .int .i64 0, .slice none 0 0, .int .i64 0, .int .i64 0, .slice none 0 0] 35)).heap.size = w.heap.size + 2) := by show _ = _; simp
  have HO := Lib.hid h
  have HR := Lib.hid (hr.below HE.out)
  have HS := Lib.hid (hs.below HE.out)
  have HOK := Lib.hid hok
  have HW := Lib.hid hw
  have HBL : B < w.heap.size + 1 := by obtain ⟨_, _, h1, _⟩ := h; have := bx_lt h1.now; omega
  clear h hr hs hok hM
  go_enter Tryz.func6, Tryz.ntmps6
  go_upto_region 1 with fail
  generalize ((w.alloc (.cells #[.int .i64 what, .int .i64 n, .int .i64 e.seq, .int .i64 e.client, .int .i64 e.num, .int .i64 e.op, .string (strB e.key), .int .i64 e.size, .int .u32 (e.sum : Int), .slice loc lf c, .int .i64 r.kind, .int .i64 r.epoch, .slice yl.ma lm yl.mc, .int .i64 r.pos, .int .i64 r.last, .slice yl.ea le yl.ec] 43)).alloc (.cells #[.int .i64 0, .int .i64 0, .slice none 0 0, .int .i64 0, .int .i64 0, .slice none 0 0] 35)) = w0 at *
  have k0 := HB3.out.cell 0 (.int .i64 what) rfl
  obtain ⟨ym, zm, h1, h2, h3⟩ := HO.out
  have HMB := Lib.hid (h1.below HE.out).now
  have k11 := HB3.out.cell 11 (.int .i64 r.epoch) rfl
  have k12 := HB3.out.cell 12 (.slice yl.ma lm yl.mc) rfl
  have k13 := HB3.out.cell 13 (.int .i64 r.pos) rfl
  have k14 := HB3.out.cell 14 (.int .i64 r.last) rfl
  have k15 := HB3.out.cell 15 (.slice yl.ea le yl.ec) rfl
  clear h1 h2 h3 HO HR HS HW
  have f1 : decide (r.epoch ≤ m.now.epoch) = true := decide_eq_true hc
  clear hc
  go_upto_region 15 with fail
  have hbl := below_one w0 (.cells #[.int .i64 3, .int .i64 r.epoch, .slice yl.ma lm yl.mc, .int .i64 r.pos, .int .i64 r.last, .slice yl.ea le yl.ec] 35)
  have HRB : Hid (Bx (w0.alloc (.cells #[.int .i64 3, .int .i64 r.epoch, .slice yl.ma lm yl.mc, .int .i64 r.pos, .int .i64 r.last, .slice yl.ea le yl.ec] 35)) w0.heap.size 35 #[.int .i64 3, .int .i64 r.epoch, .slice yl.ma lm yl.mc, .int .i64 r.pos, .int .i64 r.last, .slice yl.ea le yl.ec]) := bx_new8 _ _ _
  have HB3' := Lib.hid (HB3.out.chg (gs := []) (Chg.of_below hbl) (by simp))
  have HB4' := Lib.hid (HB4.out.chg (gs := []) (Chg.of_below hbl) (by simp))
  have HMB' := Lib.hid (HMB.out.chg (gs := []) (Chg.of_below hbl) (by simp))
  have HE' := Lib.hid (HE.out.trans (hbl.mono HE.out.size))
  clear hbl HE HB3 HB4 HMB
  have HB3 := HB3'
  clear HB3'
  have HB4 := HB4'
  clear HB4'
  have HMB := HMB'
  clear HMB'
  have HE := HE'
  clear HE'
  generalize hRB : w0.heap.size = RB at *
  have HRBE := Lib.hid hRB
  clear hRB
  generalize (w0.alloc (.cells #[.int .i64 3, .int .i64 r.epoch, .slice yl.ma lm yl.mc, .int .i64 r.pos, .int .i64 r.last, .slice yl.ea le yl.ec] 35)) = w1 at *
  clear k0 k11 k12 k13 k14 k15
  refine wp_region_ext (by kernel_rfl) ?_
  have hbd : Below w1.heap.size w1 w1.drew := Below.drew (Below.refl _ w1)
  have HRB' := Lib.hid (HRB.out.chg (gs := []) (Chg.of_below hbd) (by simp))
  have HB3' := Lib.hid (HB3.out.chg (gs := []) (Chg.of_below hbd) (by simp))
  have HB4' := Lib.hid (HB4.out.chg (gs := []) (Chg.of_below hbd) (by simp))
  have HMB' := Lib.hid (HMB.out.chg (gs := []) (Chg.of_below hbd) (by simp))
  have HE' := Lib.hid (HE.out.trans (hbd.mono HE.out.size))
  clear hbd HE HRB HB3 HB4 HMB
  have HRB := HRB'
  clear HRB'
  have HB3 := HB3'
  clear HB3'
  have HB4 := HB4'
  clear HB4'
  have HMB := HMB'
  clear HMB'
  have HE := HE'
  clear HE'
  generalize w1.drew = wd at *
  refine wpAnyH_tk (i := 0) 80 (v := ?_) rfl rfl (by kernel_rfl) (by kernel_rfl) (by kernel_rfl) (by rfl) (fun wq hwq => ?_) ?_
  rotate_left
  · (go_simp <;> with_reducible rfl)
  simp only [List.setIfInBounds_toArray, List.set_cons_zero, List.set_cons_succ]
  refine wpAnyH_tk (i := 1) 81 (v := ?_) rfl rfl (by kernel_rfl) (by kernel_rfl) (by kernel_rfl) (by rfl) (fun wq hwq => ?_) ?_
  rotate_left
  · (go_simp <;> with_reducible rfl)
  simp only [List.setIfInBounds_toArray, List.set_cons_zero, List.set_cons_succ]
  refine wpAnyH_tk (i := 2) 82 (v := ?_) rfl rfl (by kernel_rfl) (by kernel_rfl) (by kernel_rfl) (by rfl) (fun wq hwq => ?_) ?_
  rotate_left
  · (have hx := cell_later hwq (HRB.out.cell 1 (.int .i64 r.epoch) rfl); go_simp <;> with_reducible rfl)
  simp only [List.setIfInBounds_toArray, List.set_cons_zero, List.set_cons_succ]
  refine wpAnyH_tk (i := 3) 83 (v := ?_) rfl rfl (by kernel_rfl) (by kernel_rfl) (by kernel_rfl) (by rfl) (fun wq hwq => ?_) ?_
  rotate_left
  · (go_simp <;> with_reducible rfl)
  simp only [List.setIfInBounds_toArray, List.set_cons_zero, List.set_cons_succ]
  refine wpAnyH_tk (i := 4) 84 (v := ?_) rfl rfl (by kernel_rfl) (by kernel_rfl) (by kernel_rfl) (by rfl) (fun wq hwq => ?_) ?_
  rotate_left
  · (go_simp <;> with_reducible rfl)
  simp only [List.setIfInBounds_toArray, List.set_cons_zero, List.set_cons_succ]
  refine wpAnyH_tk (i := 5) 85 (v := ?_) rfl rfl (by kernel_rfl) (by kernel_rfl) (by kernel_rfl) (by rfl) (fun wq hwq => ?_) ?_
  rotate_left
  · (go_simp <;> with_reducible rfl)
  simp only [List.setIfInBounds_toArray, List.set_cons_zero, List.set_cons_succ]
  refine wpAnyH_tk (i := 6) 86 (v := ?_) rfl rfl (by kernel_rfl) (by kernel_rfl) (by kernel_rfl) (by rfl) (fun wq hwq => ?_) ?_
  rotate_left
  · (go_simp <;> with_reducible rfl)
  simp only [List.setIfInBounds_toArray, List.set_cons_zero, List.set_cons_succ]
  refine wpAnyH_tk (i := 7) 87 (v := ?_) rfl rfl (by kernel_rfl) (by kernel_rfl) (by kernel_rfl) (by rfl) (fun wq hwq => ?_) ?_
  rotate_left
  · (go_simp <;> with_reducible rfl)
  simp only [List.setIfInBounds_toArray, List.set_cons_zero, List.set_cons_succ]
  refine wpAnyH_tk (i := 8) 88 (v := ?_) rfl rfl (by kernel_rfl) (by kernel_rfl) (by kernel_rfl) (by rfl) (fun wq hwq => ?_) ?_
  rotate_left
  · (have hx := cell_later hwq (HMB.out.cell 1 (.int .i64 m.now.epoch) rfl); go_simp <;> with_reducible rfl)
  simp only [List.setIfInBounds_toArray, List.set_cons_zero, List.set_cons_succ]
  refine wpAnyH_tk (i := 9) 89 (v := ?_) rfl rfl (by kernel_rfl) (by kernel_rfl) (by kernel_rfl) (by rfl) (fun wq hwq => ?_) ?_
  rotate_left
  · (have hx := f1; go_simp <;> with_reducible rfl)
  simp only [List.setIfInBounds_toArray, List.set_cons_zero, List.set_cons_succ]
  refine wpAnyH_tk (i := 10) 90 (v := ?_) rfl rfl (by kernel_rfl) (by kernel_rfl) (by kernel_rfl) (by rfl) (fun wq hwq => ?_) ?_
  rotate_left
  · (go_simp <;> with_reducible rfl)
  simp only [List.setIfInBounds_toArray, List.set_cons_zero, List.set_cons_succ]
  refine wpAnyH_not (i := 11) 91 rfl rfl (by kernel_rfl) (by kernel_rfl) (by kernel_rfl) (by rfl) ?_
  simp only [List.setIfInBounds_toArray, List.set_cons_zero, List.set_cons_succ]
  refine wpAnyH_not (i := 12) 92 rfl rfl (by kernel_rfl) (by kernel_rfl) (by kernel_rfl) (by rfl) ?_
  simp only [List.setIfInBounds_toArray, List.set_cons_zero, List.set_cons_succ]
  refine wpAnyH_not (i := 13) 93 rfl rfl (by kernel_rfl) (by kernel_rfl) (by kernel_rfl) (by rfl) ?_
  simp only [List.setIfInBounds_toArray, List.set_cons_zero, List.set_cons_succ]
  refine wpAnyH_not (i := 14) 94 rfl rfl (by kernel_rfl) (by kernel_rfl) (by kernel_rfl) (by rfl) ?_
  simp only [List.setIfInBounds_toArray, List.set_cons_zero, List.set_cons_succ]
  refine wpAnyH_not (i := 15) 95 rfl rfl (by kernel_rfl) (by kernel_rfl) (by kernel_rfl) (by rfl) ?_
  simp only [List.setIfInBounds_toArray, List.set_cons_zero, List.set_cons_succ]
  refine wpAnyH_not (i := 16) 96 rfl rfl (by kernel_rfl) (by kernel_rfl) (by kernel_rfl) (by rfl) ?_
  simp only [List.setIfInBounds_toArray, List.set_cons_zero, List.set_cons_succ]
  refine wpAnyH_not (i := 17) 97 rfl rfl (by kernel_rfl) (by kernel_rfl) (by kernel_rfl) (by rfl) ?_
  simp only [List.setIfInBounds_toArray, List.set_cons_zero, List.set_cons_succ]
  refine wpAnyH_not (i := 18) 98 rfl rfl (by kernel_rfl) (by kernel_rfl) (by kernel_rfl) (by rfl) ?_
  simp only [List.setIfInBounds_toArray, List.set_cons_zero, List.set_cons_succ]
  refine wpAnyH_not (i := 19) 99 rfl rfl (by kernel_rfl) (by kernel_rfl) (by kernel_rfl) (by rfl) ?_
  simp only [List.setIfInBounds_toArray, List.set_cons_zero, List.set_cons_succ]
  refine wpAnyH_not (i := 20) 100 rfl rfl (by kernel_rfl) (by kernel_rfl) (by kernel_rfl) (by rfl) ?_
  simp only [List.setIfInBounds_toArray, List.set_cons_zero, List.set_cons_succ]
  refine wpAnyH_tk (i := 21) 101 (v := ?_) rfl rfl (by kernel_rfl) (by kernel_rfl) (by kernel_rfl) (by rfl) (fun wq hwq => ?_) ?_
  rotate_left
  · (go_simp <;> with_reducible rfl)
  simp only [List.setIfInBounds_toArray, List.set_cons_zero, List.set_cons_succ]
  refine wpAnyH_done (by kernel_rfl) ?_ _
  refine NoPanic.normal ?_
  go_wp2_with (first
    | (refine wpList_ldX 35 6 _ RB 0 #[.int .i64 3, .int .i64 r.epoch, .slice yl.ma lm yl.mc, .int .i64 r.pos, .int .i64 r.last, .slice yl.ea le yl.ec] rfl rfl rfl (by kernel_rfl) (by kernel_rfl) rfl (fun j v hv => (by rw [Nat.zero_add]; exact HRB.out.cell j v hv)) ?_)
    | (refine wpList_st 35 6 (w.heap.size + 1) 0 35 #[.int .i64 3, .int .i64 r.epoch, .slice yl.ma lm yl.mc, .int .i64 r.pos, .int .i64 r.last, .slice yl.ea le yl.ec] #[.int .i64 0, .int .i64 0, .slice none 0 0, .int .i64 0, .int .i64 0, .slice none 0 0] #[.int .i64 3, .int .i64 r.epoch, .slice yl.ma lm yl.mc, .int .i64 r.pos, .int .i64 r.last, .slice yl.ea le yl.ec] _ _ rfl rfl rfl rfl rfl (by kernel_rfl) rfl HB4.out (by show 6 ≤ 6; omega) (by simp [Value.oneCell']) rfl ?_; intro w9 hb9 hc9; have HB9 := Lib.hid hb9; have HC9 := Lib.hid hc9; clear hb9 hc9))
  have q0 := HB9.out.cell 0 (.int .i64 3) rfl
  have q1 := HB9.out.cell 1 (.int .i64 r.epoch) rfl
  have q2 := HB9.out.cell 2 (.slice yl.ma lm yl.mc) rfl
  have q3 := HB9.out.cell 3 (.int .i64 r.pos) rfl
  have q4 := HB9.out.cell 4 (.int .i64 r.last) rfl
  have q5 := HB9.out.cell 5 (.slice yl.ea le yl.ec) rfl
  refine bodyPost_ret (v := .tuple #[.agg #[.int .i64 3, .int .i64 r.epoch, .slice yl.ma lm yl.mc, .int .i64 r.pos, .int .i64 r.last, .slice yl.ea le yl.ec], .bool false, .int .i64 8, .bool true]) (by simp [results, Tryz.results6, go_sem, q0, q1, q2, q3, q4, q5]) rfl ?_
  have EX9 : Below w.heap.size w w9 := HC9.out.below HE.out HE.out.size (by simp)
  exact ⟨yl, by rw [← HLM.out, ← HLE.out]; rfl, (HR0.out.below EX9).stage, EX9⟩

set_option maxRecDepth 100000 in
set_option maxHeartbeats 4000000 in
theorem deed_2b (hin : DeIn M w B m e loc c r yl lf lm le) (hwh : what = 2) (hc : ¬ r.epoch ≤ m.now.epoch) (hd : r.epoch ≤ m.staged.epoch) :
    Calls Tryz.prog 6 #[.pointer (some ⟨B, 0, none⟩), .agg #[.int .i64 what, .int .i64 n, .int .i64 e.seq, .int .i64 e.client, .int .i64 e.num, .int .i64 e.op, .string (strB e.key), .int .i64 e.size, .int .u32 (e.sum : Int), .slice loc lf c, .int .i64 r.kind, .int .i64 r.epoch, .slice yl.ma lm yl.mc, .int .i64 r.pos, .int .i64 r.last, .slice yl.ea le yl.ec]] w (RetDe M w (recStage r.epoch r.mem r.pos r.last r.ents) false 8 true) := by
  have d0 : (what == 0) = false := by rw [hwh]; rfl
  have d1 : (what == 1) = false := by rw [hwh]; rfl
  have d2 : (what == 2) = true := by rw [hwh]; rfl
  clear hwh
  obtain ⟨h, hr, hs, hw, hM, hm, hok, hlf, hlm, hle⟩ := hin
  have HR0 := Lib.hid hr
  have HLF := Lib.hid hlf
  have HLM := Lib.hid hlm
  have HLE := Lib.hid hle
  have HMM := Lib.hid hM
  have HB3 : Hid (Bx ((w.alloc (.cells #[.int .i64 what, .int .i64 n, .int .i64 e.seq, .int .i64 e.client, .int .i64 e.num, .int .i64 e.op, .string (strB e.key), .int .i64 e.size, .int .u32 (e.sum : Int), .slice loc lf c, .int .i64 r.kind, .int .i64 r.epoch, .slice yl.ma lm yl.mc, .int .i64 r.pos, .int .i64 r.last, .slice yl.ea le yl.ec] 43)).alloc (.cells #[.int .i64 0, .int .i64 0, .slice none 0 0, .int .i64 0, .int .i64 0, .slice none 0 0] 35)) w.heap.size 43 #[.int .i64 what, .int .i64 n, .int .i64 e.seq, .int .i64 e.client, .int .i64 e.num, .int .i64 e.op, .string (strB e.key), .int .i64 e.size, .int .u32 (e.sum : Int), .slice loc lf c, .int .i64 r.kind, .int .i64 r.epoch, .slice yl.ma lm yl.mc, .int .i64 r.pos, .int .i64 r.last, .slice yl.ea le yl.ec]) := (bx_new8 w _ 43).chg (gs := []) (Chg.of_below (below_one _ _)) (by simp)
  have HB4 : Hid (Bx ((w.alloc (.cells #[.int .i64 what, .int .i64 n, .int .i64 e.seq, .int .i64 e.client, .int .i64 e.num, .int .i64 e.op, .string (strB e.key), .int .i64 e.size, .int .u32 (e.sum : Int), .slice loc lf c, .int .i64 r.kind, .int .i64 r.epoch, .slice yl.ma lm yl.mc, .int .i64 r.pos, .int .i64 r.last, .slice yl.ea le yl.ec] 43)).alloc (.cells #[.int .i64 0, .int .i64 0, .slice none 0 0, .int .i64 0, .int .i64 0, .slice none 0 0] 35)) (w.heap.size + 1) 35 #[.int .i64 0, .int .i64 0, .slice none 0 0, .int .i64 0, .int .i64 0, .slice none 0 0]) := by
    have := bx_new8 (w.alloc (.cells #[.int .i64 what, .int .i64 n, .int .i64 e.seq, .int .i64 e.client, .int .i64 e.num, .int .i64 e.op, .string (strB e.key), .int .i64 e.size, .int .u32 (e.sum : Int), .slice loc lf c, .int .i64 r.kind, .int .i64 r.epoch, .slice yl.ma lm yl.mc, .int .i64 r.pos, .int .i64 r.last, .slice yl.ea le yl.ec] 43)) #[.int .i64 0, .int .i64 0, .slice none 0 0, .int .i64 0, .int .i64 0, .slice none 0 0] 35
    rw [World.size_alloc] at this
    exact this
  have HE : Hid (Below w.heap.size w ((w.alloc (.cells #[.int .i64 what, .int .i64 n, .int .i64 e.seq, .int .i64 e.client, .int .i64 e.num, .int .i64 e.op, .string (strB e.key), .int .i64 e.size, .int .u32 (e.sum : Int), .slice loc lf c, .int .i64 r.kind, .int .i64 r.epoch, .slice yl.ma lm yl.mc, .int .i64 r.pos, .int .i64 r.last, .slice yl.ea le yl.ec] 43)).alloc (.cells #[.int .i64 0, .int .i64 0, .slice none 0 0, .int .i64 0, .int .i64 0, .slice none 0 0] 35))) := (below_one w _).alloc (by simp) _
  have HSZ : Hid (((w.alloc (.cells #[.int .i64 what, .int .i64 n, .int .i64 e.seq, .int .i64 e.client, .int .i64 e.num, .int .i64 e.op, .string (strB e.key), .int .i64 e.size, .int .u32 (e.sum : Int), .slice loc lf c, .int .i64 r.kind, .int .i64 r.epoch, .slice yl.ma lm yl.mc, .int .i64 r.pos, .int .i64 r.last, .slice yl.ea le yl.ec] 43)).alloc (.cells #[.int .i64 0, .int .i64 0, .slice none 0 0, .int .i64 0, .int .i64 0, .slice none 0 0] 35)).heap.size = w.heap.size + 2) := by show _ = _; simp
  have HO := Lib.hid h
  have HR := Lib.hid (hr.below HE.out)
  have HS := Lib.hid (hs.below HE.out)
  have HOK := Lib.hid hok
  have HW := Lib.hid hw
  have HBL : B < w.heap.size + 1 := by obtain ⟨_, _, h1, _⟩ := h; have := bx_lt h1.now; omega
  clear h hr hs hok hM
  go_enter Tryz.func6, Tryz.ntmps6
  go_upto_region 1 with fail
  generalize ((w.alloc (.cells #[.int .i64 what, .int .i64 n, .int .i64 e.seq, .int .i64 e.client, .int .i64 e.num, .int .i64 e.op, .string (strB e.key), .int .i64 e.size, .int .u32 (e.sum : Int), .slice loc lf c, .int .i64 r.kind, .int .i64 r.epoch, .slice yl.ma lm yl.mc, .int .i64 r.pos, .int .i64 r.last, .slice yl.ea le yl.ec] 43)).alloc (.cells #[.int .i64 0, .int .i64 0, .slice none 0 0, .int .i64 0, .int .i64 0, .slice none 0 0] 35)) = w0 at *
  have k0 := HB3.out.cell 0 (.int .i64 what) rfl
  obtain ⟨ym, zm, h1, h2, h3⟩ := HO.out
  have HMB := Lib.hid (h1.below HE.out).now
  have k11 := HB3.out.cell 11 (.int .i64 r.epoch) rfl
  have k12 := HB3.out.cell 12 (.slice yl.ma lm yl.mc) rfl
  have k13 := HB3.out.cell 13 (.int .i64 r.pos) rfl
  have k14 := HB3.out.cell 14 (.int .i64 r.last) rfl
  have k15 := HB3.out.cell 15 (.slice yl.ea le yl.ec) rfl
  clear h1 h2 h3 HO HR HS HW
  have f1 : decide (r.epoch ≤ m.now.epoch) = false := decide_eq_false hc
  have f2 : decide (r.epoch ≤ m.staged.epoch) = true := decide_eq_true hd
  clear hc hd
  go_upto_region 15 with fail
  have hbl := below_one w0 (.cells #[.int .i64 3, .int .i64 r.epoch, .slice yl.ma lm yl.mc, .int .i64 r.pos, .int .i64 r.last, .slice yl.ea le yl.ec] 35)
  have HRB : Hid (Bx (w0.alloc (.cells #[.int .i64 3, .int .i64 r.epoch, .slice yl.ma lm yl.mc, .int .i64 r.pos, .int .i64 r.last, .slice yl.ea le yl.ec] 35)) w0.heap.size 35 #[.int .i64 3, .int .i64 r.epoch, .slice yl.ma lm yl.mc, .int .i64 r.pos, .int .i64 r.last, .slice yl.ea le yl.ec]) := bx_new8 _ _ _
  have HB3' := Lib.hid (HB3.out.chg (gs := []) (Chg.of_below hbl) (by simp))
  have HB4' := Lib.hid (HB4.out.chg (gs := []) (Chg.of_below hbl) (by simp))
  have HMB' := Lib.hid (HMB.out.chg (gs := []) (Chg.of_below hbl) (by simp))
  have HE' := Lib.hid (HE.out.trans (hbl.mono HE.out.size))
  clear hbl HE HB3 HB4 HMB
  have HB3 := HB3'
  clear HB3'
  have HB4 := HB4'
  clear HB4'
  have HMB := HMB'
  clear HMB'
  have HE := HE'
  clear HE'
  generalize hRB : w0.heap.size = RB at *
  have HRBE := Lib.hid hRB
  clear hRB
  generalize (w0.alloc (.cells #[.int .i64 3, .int .i64 r.epoch, .slice yl.ma lm yl.mc, .int .i64 r.pos, .int .i64 r.last, .slice yl.ea le yl.ec] 35)) = w1 at *
  clear k0 k11 k12 k13 k14 k15
  refine wp_region_ext (by kernel_rfl) ?_
  have hbd : Below w1.heap.size w1 w1.drew := Below.drew (Below.refl _ w1)
  have HRB' := Lib.hid (HRB.out.chg (gs := []) (Chg.of_below hbd) (by simp))
  have HB3' := Lib.hid (HB3.out.chg (gs := []) (Chg.of_below hbd) (by simp))
  have HB4' := Lib.hid (HB4.out.chg (gs := []) (Chg.of_below hbd) (by simp))
  have HMB' := Lib.hid (HMB.out.chg (gs := []) (Chg.of_below hbd) (by simp))
  have HE' := Lib.hid (HE.out.trans (hbd.mono HE.out.size))
  clear hbd HE HRB HB3 HB4 HMB
  have HRB := HRB'
  clear HRB'
  have HB3 := HB3'
  clear HB3'
  have HB4 := HB4'
  clear HB4'
  have HMB := HMB'
  clear HMB'
  have HE := HE'
  clear HE'
  generalize w1.drew = wd at *
  refine wpAnyH_tk (i := 0) 80 (v := ?_) rfl rfl (by kernel_rfl) (by kernel_rfl) (by kernel_rfl) (by rfl) (fun wq hwq => ?_) ?_
  rotate_left
  · (go_simp <;> with_reducible rfl)
  simp only [List.setIfInBounds_toArray, List.set_cons_zero, List.set_cons_succ]
  refine wpAnyH_tk (i := 1) 81 (v := ?_) rfl rfl (by kernel_rfl) (by kernel_rfl) (by kernel_rfl) (by rfl) (fun wq hwq => ?_) ?_
  rotate_left
  · (go_simp <;> with_reducible rfl)
  simp only [List.setIfInBounds_toArray, List.set_cons_zero, List.set_cons_succ]
  refine wpAnyH_tk (i := 2) 82 (v := ?_) rfl rfl (by kernel_rfl) (by kernel_rfl) (by kernel_rfl) (by rfl) (fun wq hwq => ?_) ?_
  rotate_left
  · (have hx := cell_later hwq (HRB.out.cell 1 (.int .i64 r.epoch) rfl); go_simp <;> with_reducible rfl)
  simp only [List.setIfInBounds_toArray, List.set_cons_zero, List.set_cons_succ]
  refine wpAnyH_tk (i := 3) 83 (v := ?_) rfl rfl (by kernel_rfl) (by kernel_rfl) (by kernel_rfl) (by rfl) (fun wq hwq => ?_) ?_
  rotate_left
  · (go_simp <;> with_reducible rfl)
  simp only [List.setIfInBounds_toArray, List.set_cons_zero, List.set_cons_succ]
  refine wpAnyH_tk (i := 4) 84 (v := ?_) rfl rfl (by kernel_rfl) (by kernel_rfl) (by kernel_rfl) (by rfl) (fun wq hwq => ?_) ?_
  rotate_left
  · (go_simp <;> with_reducible rfl)
  simp only [List.setIfInBounds_toArray, List.set_cons_zero, List.set_cons_succ]
  refine wpAnyH_tk (i := 5) 85 (v := ?_) rfl rfl (by kernel_rfl) (by kernel_rfl) (by kernel_rfl) (by rfl) (fun wq hwq => ?_) ?_
  rotate_left
  · (go_simp <;> with_reducible rfl)
  simp only [List.setIfInBounds_toArray, List.set_cons_zero, List.set_cons_succ]
  refine wpAnyH_tk (i := 6) 86 (v := ?_) rfl rfl (by kernel_rfl) (by kernel_rfl) (by kernel_rfl) (by rfl) (fun wq hwq => ?_) ?_
  rotate_left
  · (go_simp <;> with_reducible rfl)
  simp only [List.setIfInBounds_toArray, List.set_cons_zero, List.set_cons_succ]
  refine wpAnyH_tk (i := 7) 87 (v := ?_) rfl rfl (by kernel_rfl) (by kernel_rfl) (by kernel_rfl) (by rfl) (fun wq hwq => ?_) ?_
  rotate_left
  · (go_simp <;> with_reducible rfl)
  simp only [List.setIfInBounds_toArray, List.set_cons_zero, List.set_cons_succ]
  refine wpAnyH_tk (i := 8) 88 (v := ?_) rfl rfl (by kernel_rfl) (by kernel_rfl) (by kernel_rfl) (by rfl) (fun wq hwq => ?_) ?_
  rotate_left
  · (have hx := cell_later hwq (HMB.out.cell 1 (.int .i64 m.now.epoch) rfl); go_simp <;> with_reducible rfl)
  simp only [List.setIfInBounds_toArray, List.set_cons_zero, List.set_cons_succ]
  refine wpAnyH_tk (i := 9) 89 (v := ?_) rfl rfl (by kernel_rfl) (by kernel_rfl) (by kernel_rfl) (by rfl) (fun wq hwq => ?_) ?_
  rotate_left
  · (have hx := f1; go_simp <;> with_reducible rfl)
  simp only [List.setIfInBounds_toArray, List.set_cons_zero, List.set_cons_succ]
  refine wpAnyH_tk (i := 10) 90 (v := ?_) rfl rfl (by kernel_rfl) (by kernel_rfl) (by kernel_rfl) (by rfl) (fun wq hwq => ?_) ?_
  rotate_left
  · (go_simp <;> with_reducible rfl)
  simp only [List.setIfInBounds_toArray, List.set_cons_zero, List.set_cons_succ]
  refine wpAnyH_tk (i := 11) 91 (v := ?_) rfl rfl (by kernel_rfl) (by kernel_rfl) (by kernel_rfl) (by rfl) (fun wq hwq => ?_) ?_
  rotate_left
  · (go_simp <;> with_reducible rfl)
  simp only [List.setIfInBounds_toArray, List.set_cons_zero, List.set_cons_succ]
  refine wpAnyH_tk (i := 12) 92 (v := ?_) rfl rfl (by kernel_rfl) (by kernel_rfl) (by kernel_rfl) (by rfl) (fun wq hwq => ?_) ?_
  rotate_left
  · (go_simp <;> with_reducible rfl)
  simp only [List.setIfInBounds_toArray, List.set_cons_zero, List.set_cons_succ]
  refine wpAnyH_tk (i := 13) 93 (v := ?_) rfl rfl (by kernel_rfl) (by kernel_rfl) (by kernel_rfl) (by rfl) (fun wq hwq => ?_) ?_
  rotate_left
  · (have hx := cell_later hwq (HRB.out.cell 1 (.int .i64 r.epoch) rfl); go_simp <;> with_reducible rfl)
  simp only [List.setIfInBounds_toArray, List.set_cons_zero, List.set_cons_succ]
  refine wpAnyH_tk (i := 14) 94 (v := ?_) rfl rfl (by kernel_rfl) (by kernel_rfl) (by kernel_rfl) (by rfl) (fun wq hwq => ?_) ?_
  rotate_left
  · (go_simp <;> with_reducible rfl)
  simp only [List.setIfInBounds_toArray, List.set_cons_zero, List.set_cons_succ]
  refine wpAnyH_tk (i := 15) 95 (v := ?_) rfl rfl (by kernel_rfl) (by kernel_rfl) (by kernel_rfl) (by rfl) (fun wq hwq => ?_) ?_
  rotate_left
  · (go_simp <;> with_reducible rfl)
  simp only [List.setIfInBounds_toArray, List.set_cons_zero, List.set_cons_succ]
  refine wpAnyH_tk (i := 16) 96 (v := ?_) rfl rfl (by kernel_rfl) (by kernel_rfl) (by kernel_rfl) (by rfl) (fun wq hwq => ?_) ?_
  rotate_left
  · (go_simp <;> with_reducible rfl)
  simp only [List.setIfInBounds_toArray, List.set_cons_zero, List.set_cons_succ]
  refine wpAnyH_tk (i := 17) 97 (v := ?_) rfl rfl (by kernel_rfl) (by kernel_rfl) (by kernel_rfl) (by rfl) (fun wq hwq => ?_) ?_
  rotate_left
  · (go_simp <;> with_reducible rfl)
  simp only [List.setIfInBounds_toArray, List.set_cons_zero, List.set_cons_succ]
  refine wpAnyH_tk (i := 18) 98 (v := ?_) rfl rfl (by kernel_rfl) (by kernel_rfl) (by kernel_rfl) (by rfl) (fun wq hwq => ?_) ?_
  rotate_left
  · (go_simp <;> with_reducible rfl)
  simp only [List.setIfInBounds_toArray, List.set_cons_zero, List.set_cons_succ]
  refine wpAnyH_tk (i := 19) 99 (v := ?_) rfl rfl (by kernel_rfl) (by kernel_rfl) (by kernel_rfl) (by rfl) (fun wq hwq => ?_) ?_
  rotate_left
  · (have hx := cell_later hwq (HMB.out.cell 8 (.int .i64 m.staged.epoch) rfl); go_simp <;> with_reducible rfl)
  simp only [List.setIfInBounds_toArray, List.set_cons_zero, List.set_cons_succ]
  refine wpAnyH_tk (i := 20) 100 (v := ?_) rfl rfl (by kernel_rfl) (by kernel_rfl) (by kernel_rfl) (by rfl) (fun wq hwq => ?_) ?_
  rotate_left
  · (have hx := f2; go_simp <;> with_reducible rfl)
  simp only [List.setIfInBounds_toArray, List.set_cons_zero, List.set_cons_succ]
  refine wpAnyH_tk (i := 21) 101 (v := ?_) rfl rfl (by kernel_rfl) (by kernel_rfl) (by kernel_rfl) (by rfl) (fun wq hwq => ?_) ?_
  rotate_left
  · (go_simp <;> with_reducible rfl)
  simp only [List.setIfInBounds_toArray, List.set_cons_zero, List.set_cons_succ]
  refine wpAnyH_done (by kernel_rfl) ?_ _
  refine NoPanic.normal ?_
  go_wp2_with (first
    | (refine wpList_ldX 35 6 _ RB 0 #[.int .i64 3, .int .i64 r.epoch, .slice yl.ma lm yl.mc, .int .i64 r.pos, .int .i64 r.last, .slice yl.ea le yl.ec] rfl rfl rfl (by kernel_rfl) (by kernel_rfl) rfl (fun j v hv => (by rw [Nat.zero_add]; exact HRB.out.cell j v hv)) ?_)
    | (refine wpList_st 35 6 (w.heap.size + 1) 0 35 #[.int .i64 3, .int .i64 r.epoch, .slice yl.ma lm yl.mc, .int .i64 r.pos, .int .i64 r.last, .slice yl.ea le yl.ec] #[.int .i64 0, .int .i64 0, .slice none 0 0, .int .i64 0, .int .i64 0, .slice none 0 0] #[.int .i64 3, .int .i64 r.epoch, .slice yl.ma lm yl.mc, .int .i64 r.pos, .int .i64 r.last, .slice yl.ea le yl.ec] _ _ rfl rfl rfl rfl rfl (by kernel_rfl) rfl HB4.out (by show 6 ≤ 6; omega) (by simp [Value.oneCell']) rfl ?_; intro w9 hb9 hc9; have HB9 := Lib.hid hb9; have HC9 := Lib.hid hc9; clear hb9 hc9))
  have q0 := HB9.out.cell 0 (.int .i64 3) rfl
  have q1 := HB9.out.cell 1 (.int .i64 r.epoch) rfl
  have q2 := HB9.out.cell 2 (.slice yl.ma lm yl.mc) rfl
  have q3 := HB9.out.cell 3 (.int .i64 r.pos) rfl
  have q4 := HB9.out.cell 4 (.int .i64 r.last) rfl
  have q5 := HB9.out.cell 5 (.slice yl.ea le yl.ec) rfl
  refine bodyPost_ret (v := .tuple #[.agg #[.int .i64 3, .int .i64 r.epoch, .slice yl.ma lm yl.mc, .int .i64 r.pos, .int .i64 r.last, .slice yl.ea le yl.ec], .bool false, .int .i64 8, .bool true]) (by simp [results, Tryz.results6, go_sem, q0, q1, q2, q3, q4, q5]) rfl ?_
  have EX9 : Below w.heap.size w w9 := HC9.out.below HE.out HE.out.size (by simp)
  exact ⟨yl, by rw [← HLM.out, ← HLE.out]; rfl, (HR0.out.below EX9).stage, EX9⟩

set_option maxRecDepth 100000 in
set_option maxHeartbeats 4000000 in
theorem deed_2c (hin : DeIn M w B m e loc c r yl lf lm le) (hwh : what = 2) (hc : ¬ r.epoch ≤ m.now.epoch) (hd : ¬ r.epoch ≤ m.staged.epoch) :
    Calls Tryz.prog 6 #[.pointer (some ⟨B, 0, none⟩), .agg #[.int .i64 what, .int .i64 n, .int .i64 e.seq, .int .i64 e.client, .int .i64 e.num, .int .i64 e.op, .string (strB e.key), .int .i64 e.size, .int .u32 (e.sum : Int), .slice loc lf c, .int .i64 r.kind, .int .i64 r.epoch, .slice yl.ma lm yl.mc, .int .i64 r.pos, .int .i64 r.last, .slice yl.ea le yl.ec]] w (RetDe M w (recStage r.epoch r.mem r.pos r.last r.ents) false 0 true) := by
  have d0 : (what == 0) = false := by rw [hwh]; rfl
  have d1 : (what == 1) = false := by rw [hwh]; rfl
  have d2 : (what == 2) = true := by rw [hwh]; rfl
  clear hwh
  obtain ⟨h, hr, hs, hw, hM, hm, hok, hlf, hlm, hle⟩ := hin
  have HR0 := Lib.hid hr
  have HLF := Lib.hid hlf
  have HLM := Lib.hid hlm
  have HLE := Lib.hid hle
  have HMM := Lib.hid hM
  have HB3 : Hid (Bx ((w.alloc (.cells #[.int .i64 what, .int .i64 n, .int .i64 e.seq, .int .i64 e.client, .int .i64 e.num, .int .i64 e.op, .string (strB e.key), .int .i64 e.size, .int .u32 (e.sum : Int), .slice loc lf c, .int .i64 r.kind, .int .i64 r.epoch, .slice yl.ma lm yl.mc, .int .i64 r.pos, .int .i64 r.last, .slice yl.ea le yl.ec] 43)).alloc (.cells #[.int .i64 0, .int .i64 0, .slice none 0 0, .int .i64 0, .int .i64 0, .slice none 0 0] 35)) w.heap.size 43 #[.int .i64 what, .int .i64 n, .int .i64 e.seq, .int .i64 e.client, .int .i64 e.num, .int .i64 e.op, .string (strB e.key), .int .i64 e.size, .int .u32 (e.sum : Int), .slice loc lf c, .int .i64 r.kind, .int .i64 r.epoch, .slice yl.ma lm yl.mc, .int .i64 r.pos, .int .i64 r.last, .slice yl.ea le yl.ec]) := (bx_new8 w _ 43).chg (gs := []) (Chg.of_below (below_one _ _)) (by simp)
  have HB4 : Hid (Bx ((w.alloc (.cells #[.int .i64 what, .int .i64 n, .int .i64 e.seq, .int .i64 e.client, .int .i64 e.num, .int .i64 e.op, .string (strB e.key), .int .i64 e.size, .int .u32 (e.sum : Int), .slice loc lf c, .int .i64 r.kind, .int .i64 r.epoch, .slice yl.ma lm yl.mc, .int .i64 r.pos, .int .i64 r.last, .slice yl.ea le yl.ec] 43)).alloc (.cells #[.int .i64 0, .int .i64 0, .slice none 0 0, .int .i64 0, .int .i64 0, .slice none 0 0] 35)) (w.heap.size + 1) 35 #[.int .i64 0, .int .i64 0, .slice none 0 0, .int .i64 0, .int .i64 0, .slice none 0 0]) := by
    have := bx_new8 (w.alloc (.cells #[.int .i64 what, .int .i64 n, .int .i64 e.seq, .int .i64 e.client, .int .i64 e.num, .int .i64 e.op, .string (strB e.key), .int .i64 e.size, .int .u32 (e.sum : Int), .slice loc lf c, .int .i64 r.kind, .int .i64 r.epoch, .slice yl.ma lm yl.mc, .int .i64 r.pos, .int .i64 r.last, .slice yl.ea le yl.ec] 43)) #[.int .i64 0, .int .i64 0, .slice none 0 0, .int .i64 0, .int .i64 0, .slice none 0 0] 35
    rw [World.size_alloc] at this
    exact this
  have HE : Hid (Below w.heap.size w ((w.alloc (.cells #[.int .i64 what, .int .i64 n, .int .i64 e.seq, .int .i64 e.client, .int .i64 e.num, .int .i64 e.op, .string (strB e.key), .int .i64 e.size, .int .u32 (e.sum : Int), .slice loc lf c, .int .i64 r.kind, .int .i64 r.epoch, .slice yl.ma lm yl.mc, .int .i64 r.pos, .int .i64 r.last, .slice yl.ea le yl.ec] 43)).alloc (.cells #[.int .i64 0, .int .i64 0, .slice none 0 0, .int .i64 0, .int .i64 0, .slice none 0 0] 35))) := (below_one w _).alloc (by simp) _
  have HSZ : Hid (((w.alloc (.cells #[.int .i64 what, .int .i64 n, .int .i64 e.seq, .int .i64 e.client, .int .i64 e.num, .int .i64 e.op, .string (strB e.key), .int .i64 e.size, .int .u32 (e.sum : Int), .slice loc lf c, .int .i64 r.kind, .int .i64 r.epoch, .slice yl.ma lm yl.mc, .int .i64 r.pos, .int .i64 r.last, .slice yl.ea le yl.ec] 43)).alloc (.cells #[.int .i64 0, .int .i64 0, .slice none 0 0, .int .i64 0, .int .i64 0, .slice none 0 0] 35)).heap.size = w.heap.size + 2) := by show _ = _; simp
  have HO := Lib.hid h
  have HR := Lib.hid (hr.below HE.out)
  have HS := Lib.hid (hs.below HE.out)
  have HOK := Lib.hid hok
  have HW := Lib.hid hw
  have HBL : B < w.heap.size + 1 := by obtain ⟨_, _, h1, _⟩ := h; have := bx_lt h1.now; omega
  clear h hr hs hok hM
  go_enter Tryz.func6, Tryz.ntmps6
  go_upto_region 1 with fail
  generalize ((w.alloc (.cells #[.int .i64 what, .int .i64 n, .int .i64 e.seq, .int .i64 e.client, .int .i64 e.num, .int .i64 e.op, .string (strB e.key), .int .i64 e.size, .int .u32 (e.sum : Int), .slice loc lf c, .int .i64 r.kind, .int .i64 r.epoch, .slice yl.ma lm yl.mc, .int .i64 r.pos, .int .i64 r.last, .slice yl.ea le yl.ec] 43)).alloc (.cells #[.int .i64 0, .int .i64 0, .slice none 0 0, .int .i64 0, .int .i64 0, .slice none 0 0] 35)) = w0 at *
  have k0 := HB3.out.cell 0 (.int .i64 what) rfl
  obtain ⟨ym, zm, h1, h2, h3⟩ := HO.out
  have HMB := Lib.hid (h1.below HE.out).now
  have k11 := HB3.out.cell 11 (.int .i64 r.epoch) rfl
  have k12 := HB3.out.cell 12 (.slice yl.ma lm yl.mc) rfl
  have k13 := HB3.out.cell 13 (.int .i64 r.pos) rfl
  have k14 := HB3.out.cell 14 (.int .i64 r.last) rfl
  have k15 := HB3.out.cell 15 (.slice yl.ea le yl.ec) rfl
  clear h1 h2 h3 HO HR HS HW
  have f1 : decide (r.epoch ≤ m.now.epoch) = false := decide_eq_false hc
  have f2 : decide (r.epoch ≤ m.staged.epoch) = false := decide_eq_false hd
  clear hc hd
  go_upto_region 15 with fail
  have hbl := below_one w0 (.cells #[.int .i64 3, .int .i64 r.epoch, .slice yl.ma lm yl.mc, .int .i64 r.pos, .int .i64 r.last, .slice yl.ea le yl.ec] 35)
  have HRB : Hid (Bx (w0.alloc (.cells #[.int .i64 3, .int .i64 r.epoch, .slice yl.ma lm yl.mc, .int .i64 r.pos, .int .i64 r.last, .slice yl.ea le yl.ec] 35)) w0.heap.size 35 #[.int .i64 3, .int .i64 r.epoch, .slice yl.ma lm yl.mc, .int .i64 r.pos, .int .i64 r.last, .slice yl.ea le yl.ec]) := bx_new8 _ _ _
  have HB3' := Lib.hid (HB3.out.chg (gs := []) (Chg.of_below hbl) (by simp))
  have HB4' := Lib.hid (HB4.out.chg (gs := []) (Chg.of_below hbl) (by simp))
  have HMB' := Lib.hid (HMB.out.chg (gs := []) (Chg.of_below hbl) (by simp))
  have HE' := Lib.hid (HE.out.trans (hbl.mono HE.out.size))
  clear hbl HE HB3 HB4 HMB
  have HB3 := HB3'
  clear HB3'
  have HB4 := HB4'
  clear HB4'
  have HMB := HMB'
  clear HMB'
  have HE := HE'
  clear HE'
  generalize hRB : w0.heap.size = RB at *
  have HRBE := Lib.hid hRB
  clear hRB
  generalize (w0.alloc (.cells #[.int .i64 3, .int .i64 r.epoch, .slice yl.ma lm yl.mc, .int .i64 r.pos, .int .i64 r.last, .slice yl.ea le yl.ec] 35)) = w1 at *
  clear k0 k11 k12 k13 k14 k15
  refine wp_region_ext (by kernel_rfl) ?_
  have hbd : Below w1.heap.size w1 w1.drew := Below.drew (Below.refl _ w1)
  have HRB' := Lib.hid (HRB.out.chg (gs := []) (Chg.of_below hbd) (by simp))
  have HB3' := Lib.hid (HB3.out.chg (gs := []) (Chg.of_below hbd) (by simp))
  have HB4' := Lib.hid (HB4.out.chg (gs := []) (Chg.of_below hbd) (by simp))
  have HMB' := Lib.hid (HMB.out.chg (gs := []) (Chg.of_below hbd) (by simp))
  have HE' := Lib.hid (HE.out.trans (hbd.mono HE.out.size))
  clear hbd HE HRB HB3 HB4 HMB
  have HRB := HRB'
  clear HRB'
  have HB3 := HB3'
  clear HB3'
  have HB4 := HB4'
  clear HB4'
  have HMB := HMB'
  clear HMB'
  have HE := HE'
  clear HE'
  generalize w1.drew = wd at *
  refine wpAnyH_tk (i := 0) 80 (v := ?_) rfl rfl (by kernel_rfl) (by kernel_rfl) (by kernel_rfl) (by rfl) (fun wq hwq => ?_) ?_
  rotate_left
  · (go_simp <;> with_reducible rfl)
  simp only [List.setIfInBounds_toArray, List.set_cons_zero, List.set_cons_succ]
  refine wpAnyH_tk (i := 1) 81 (v := ?_) rfl rfl (by kernel_rfl) (by kernel_rfl) (by kernel_rfl) (by rfl) (fun wq hwq => ?_) ?_
  rotate_left
  · (go_simp <;> with_reducible rfl)
  simp only [List.setIfInBounds_toArray, List.set_cons_zero, List.set_cons_succ]
  refine wpAnyH_tk (i := 2) 82 (v := ?_) rfl rfl (by kernel_rfl) (by kernel_rfl) (by kernel_rfl) (by rfl) (fun wq hwq => ?_) ?_
  rotate_left
  · (have hx := cell_later hwq (HRB.out.cell 1 (.int .i64 r.epoch) rfl); go_simp <;> with_reducible rfl)
  simp only [List.setIfInBounds_toArray, List.set_cons_zero, List.set_cons_succ]
  refine wpAnyH_tk (i := 3) 83 (v := ?_) rfl rfl (by kernel_rfl) (by kernel_rfl) (by kernel_rfl) (by rfl) (fun wq hwq => ?_) ?_
  rotate_left
  · (go_simp <;> with_reducible rfl)
  simp only [List.setIfInBounds_toArray, List.set_cons_zero, List.set_cons_succ]
  refine wpAnyH_tk (i := 4) 84 (v := ?_) rfl rfl (by kernel_rfl) (by kernel_rfl) (by kernel_rfl) (by rfl) (fun wq hwq => ?_) ?_
  rotate_left
  · (go_simp <;> with_reducible rfl)
  simp only [List.setIfInBounds_toArray, List.set_cons_zero, List.set_cons_succ]
  refine wpAnyH_tk (i := 5) 85 (v := ?_) rfl rfl (by kernel_rfl) (by kernel_rfl) (by kernel_rfl) (by rfl) (fun wq hwq => ?_) ?_
  rotate_left
  · (go_simp <;> with_reducible rfl)
  simp only [List.setIfInBounds_toArray, List.set_cons_zero, List.set_cons_succ]
  refine wpAnyH_tk (i := 6) 86 (v := ?_) rfl rfl (by kernel_rfl) (by kernel_rfl) (by kernel_rfl) (by rfl) (fun wq hwq => ?_) ?_
  rotate_left
  · (go_simp <;> with_reducible rfl)
  simp only [List.setIfInBounds_toArray, List.set_cons_zero, List.set_cons_succ]
  refine wpAnyH_tk (i := 7) 87 (v := ?_) rfl rfl (by kernel_rfl) (by kernel_rfl) (by kernel_rfl) (by rfl) (fun wq hwq => ?_) ?_
  rotate_left
  · (go_simp <;> with_reducible rfl)
  simp only [List.setIfInBounds_toArray, List.set_cons_zero, List.set_cons_succ]
  refine wpAnyH_tk (i := 8) 88 (v := ?_) rfl rfl (by kernel_rfl) (by kernel_rfl) (by kernel_rfl) (by rfl) (fun wq hwq => ?_) ?_
  rotate_left
  · (have hx := cell_later hwq (HMB.out.cell 1 (.int .i64 m.now.epoch) rfl); go_simp <;> with_reducible rfl)
  simp only [List.setIfInBounds_toArray, List.set_cons_zero, List.set_cons_succ]
  refine wpAnyH_tk (i := 9) 89 (v := ?_) rfl rfl (by kernel_rfl) (by kernel_rfl) (by kernel_rfl) (by rfl) (fun wq hwq => ?_) ?_
  rotate_left
  · (have hx := f1; go_simp <;> with_reducible rfl)
  simp only [List.setIfInBounds_toArray, List.set_cons_zero, List.set_cons_succ]
  refine wpAnyH_tk (i := 10) 90 (v := ?_) rfl rfl (by kernel_rfl) (by kernel_rfl) (by kernel_rfl) (by rfl) (fun wq hwq => ?_) ?_
  rotate_left
  · (go_simp <;> with_reducible rfl)
  simp only [List.setIfInBounds_toArray, List.set_cons_zero, List.set_cons_succ]
  refine wpAnyH_tk (i := 11) 91 (v := ?_) rfl rfl (by kernel_rfl) (by kernel_rfl) (by kernel_rfl) (by rfl) (fun wq hwq => ?_) ?_
  rotate_left
  · (go_simp <;> with_reducible rfl)
  simp only [List.setIfInBounds_toArray, List.set_cons_zero, List.set_cons_succ]
  refine wpAnyH_tk (i := 12) 92 (v := ?_) rfl rfl (by kernel_rfl) (by kernel_rfl) (by kernel_rfl) (by rfl) (fun wq hwq => ?_) ?_
  rotate_left
  · (go_simp <;> with_reducible rfl)
  simp only [List.setIfInBounds_toArray, List.set_cons_zero, List.set_cons_succ]
  refine wpAnyH_tk (i := 13) 93 (v := ?_) rfl rfl (by kernel_rfl) (by kernel_rfl) (by kernel_rfl) (by rfl) (fun wq hwq => ?_) ?_
  rotate_left
  · (have hx := cell_later hwq (HRB.out.cell 1 (.int .i64 r.epoch) rfl); go_simp <;> with_reducible rfl)
  simp only [List.setIfInBounds_toArray, List.set_cons_zero, List.set_cons_succ]
  refine wpAnyH_tk (i := 14) 94 (v := ?_) rfl rfl (by kernel_rfl) (by kernel_rfl) (by kernel_rfl) (by rfl) (fun wq hwq => ?_) ?_
  rotate_left
  · (go_simp <;> with_reducible rfl)
  simp only [List.setIfInBounds_toArray, List.set_cons_zero, List.set_cons_succ]
  refine wpAnyH_tk (i := 15) 95 (v := ?_) rfl rfl (by kernel_rfl) (by kernel_rfl) (by kernel_rfl) (by rfl) (fun wq hwq => ?_) ?_
  rotate_left
  · (go_simp <;> with_reducible rfl)
  simp only [List.setIfInBounds_toArray, List.set_cons_zero, List.set_cons_succ]
  refine wpAnyH_tk (i := 16) 96 (v := ?_) rfl rfl (by kernel_rfl) (by kernel_rfl) (by kernel_rfl) (by rfl) (fun wq hwq => ?_) ?_
  rotate_left
  · (go_simp <;> with_reducible rfl)
  simp only [List.setIfInBounds_toArray, List.set_cons_zero, List.set_cons_succ]
  refine wpAnyH_tk (i := 17) 97 (v := ?_) rfl rfl (by kernel_rfl) (by kernel_rfl) (by kernel_rfl) (by rfl) (fun wq hwq => ?_) ?_
  rotate_left
  · (go_simp <;> with_reducible rfl)
  simp only [List.setIfInBounds_toArray, List.set_cons_zero, List.set_cons_succ]
  refine wpAnyH_tk (i := 18) 98 (v := ?_) rfl rfl (by kernel_rfl) (by kernel_rfl) (by kernel_rfl) (by rfl) (fun wq hwq => ?_) ?_
  rotate_left
  · (go_simp <;> with_reducible rfl)
  simp only [List.setIfInBounds_toArray, List.set_cons_zero, List.set_cons_succ]
  refine wpAnyH_tk (i := 19) 99 (v := ?_) rfl rfl (by kernel_rfl) (by kernel_rfl) (by kernel_rfl) (by rfl) (fun wq hwq => ?_) ?_
  rotate_left
  · (have hx := cell_later hwq (HMB.out.cell 8 (.int .i64 m.staged.epoch) rfl); go_simp <;> with_reducible rfl)
  simp only [List.setIfInBounds_toArray, List.set_cons_zero, List.set_cons_succ]
  refine wpAnyH_tk (i := 20) 100 (v := ?_) rfl rfl (by kernel_rfl) (by kernel_rfl) (by kernel_rfl) (by rfl) (fun wq hwq => ?_) ?_
  rotate_left
  · (have hx := f2; go_simp <;> with_reducible rfl)
  simp only [List.setIfInBounds_toArray, List.set_cons_zero, List.set_cons_succ]
  refine wpAnyH_tk (i := 21) 101 (v := ?_) rfl rfl (by kernel_rfl) (by kernel_rfl) (by kernel_rfl) (by rfl) (fun wq hwq => ?_) ?_
  rotate_left
  · (go_simp <;> with_reducible rfl)
  simp only [List.setIfInBounds_toArray, List.set_cons_zero, List.set_cons_succ]
  refine wpAnyH_done (by kernel_rfl) ?_ _
  refine NoPanic.normal ?_
  go_wp2_with (first
    | (refine wpList_ldX 35 6 _ RB 0 #[.int .i64 3, .int .i64 r.epoch, .slice yl.ma lm yl.mc, .int .i64 r.pos, .int .i64 r.last, .slice yl.ea le yl.ec] rfl rfl rfl (by kernel_rfl) (by kernel_rfl) rfl (fun j v hv => (by rw [Nat.zero_add]; exact HRB.out.cell j v hv)) ?_)
    | (refine wpList_st 35 6 (w.heap.size + 1) 0 35 #[.int .i64 3, .int .i64 r.epoch, .slice yl.ma lm yl.mc, .int .i64 r.pos, .int .i64 r.last, .slice yl.ea le yl.ec] #[.int .i64 0, .int .i64 0, .slice none 0 0, .int .i64 0, .int .i64 0, .slice none 0 0] #[.int .i64 3, .int .i64 r.epoch, .slice yl.ma lm yl.mc, .int .i64 r.pos, .int .i64 r.last, .slice yl.ea le yl.ec] _ _ rfl rfl rfl rfl rfl (by kernel_rfl) rfl HB4.out (by show 6 ≤ 6; omega) (by simp [Value.oneCell']) rfl ?_; intro w9 hb9 hc9; have HB9 := Lib.hid hb9; have HC9 := Lib.hid hc9; clear hb9 hc9))
  have q0 := HB9.out.cell 0 (.int .i64 3) rfl
  have q1 := HB9.out.cell 1 (.int .i64 r.epoch) rfl
  have q2 := HB9.out.cell 2 (.slice yl.ma lm yl.mc) rfl
  have q3 := HB9.out.cell 3 (.int .i64 r.pos) rfl
  have q4 := HB9.out.cell 4 (.int .i64 r.last) rfl
  have q5 := HB9.out.cell 5 (.slice yl.ea le yl.ec) rfl
  refine bodyPost_ret (v := .tuple #[.agg #[.int .i64 3, .int .i64 r.epoch, .slice yl.ma lm yl.mc, .int .i64 r.pos, .int .i64 r.last, .slice yl.ea le yl.ec], .bool false, .int .i64 0, .bool true]) (by simp [results, Tryz.results6, go_sem, q0, q1, q2, q3, q4, q5]) rfl ?_
  have EX9 : Below w.heap.size w w9 := HC9.out.below HE.out HE.out.size (by simp)
  exact ⟨yl, by rw [← HLM.out, ← HLE.out]; rfl, (HR0.out.below EX9).stage, EX9⟩


set_option maxRecDepth 100000 in
set_option maxHeartbeats 4000000 in
theorem deed_3a (hin : DeIn M w B m e loc c r yl lf lm le) (hwh : what = 3) (hc : n < 1) :
    Calls Tryz.prog 6 #[.pointer (some ⟨B, 0, none⟩), .agg #[.int .i64 what, .int .i64 n, .int .i64 e.seq, .int .i64 e.client, .int .i64 e.num, .int .i64 e.op, .string (strB e.key), .int .i64 e.size, .int .u32 (e.sum : Int), .slice loc lf c, .int .i64 r.kind, .int .i64 r.epoch, .slice yl.ma lm yl.mc, .int .i64 r.pos, .int .i64 r.last, .slice yl.ea le yl.ec]] w (RetDe M w (recAct m) true 8 true) := by
  have d0 : (what == 0) = false := by rw [hwh]; rfl
  have d1 : (what == 1) = false := by rw [hwh]; rfl
  have d2 : (what == 2) = false := by rw [hwh]; rfl
  have d3 : (what == 3) = true := by rw [hwh]; rfl
  clear hwh
  obtain ⟨h, hr, hs, hw, hM, hm, hok, hlf, hlm, hle⟩ := hin
  have HR0 := Lib.hid hr
  have HLF := Lib.hid hlf
  have HLM := Lib.hid hlm
  have HLE := Lib.hid hle
  have HMM := Lib.hid hM
  have HB3 : Hid (Bx ((w.alloc (.cells #[.int .i64 what, .int .i64 n, .int .i64 e.seq, .int .i64 e.client, .int .i64 e.num, .int .i64 e.op, .string (strB e.key), .int .i64 e.size, .int .u32 (e.sum : Int), .slice loc lf c, .int .i64 r.kind, .int .i64 r.epoch, .slice yl.ma lm yl.mc, .int .i64 r.pos, .int .i64 r.last, .slice yl.ea le yl.ec] 43)).alloc (.cells #[.int .i64 0, .int .i64 0, .slice none 0 0, .int .i64 0, .int .i64 0, .slice none 0 0] 35)) w.heap.size 43 #[.int .i64 what, .int .i64 n, .int .i64 e.seq, .int .i64 e.client, .int .i64 e.num, .int .i64 e.op, .string (strB e.key), .int .i64 e.size, .int .u32 (e.sum : Int), .slice loc lf c, .int .i64 r.kind, .int .i64 r.epoch, .slice yl.ma lm yl.mc, .int .i64 r.pos, .int .i64 r.last, .slice yl.ea le yl.ec]) := (bx_new8 w _ 43).chg (gs := []) (Chg.of_below (below_one _ _)) (by simp)
  have HB4 : Hid (Bx ((w.alloc (.cells #[.int .i64 what, .int .i64 n, .int .i64 e.seq, .int .i64 e.client, .int .i64 e.num, .int .i64 e.op, .string (strB e.key), .int .i64 e.size, .int .u32 (e.sum : Int), .slice loc lf c, .int .i64 r.kind, .int .i64 r.epoch, .slice yl.ma lm yl.mc, .int .i64 r.pos, .int .i64 r.last, .slice yl.ea le yl.ec] 43)).alloc (.cells #[.int .i64 0, .int .i64 0, .slice none 0 0, .int .i64 0, .int .i64 0, .slice none 0 0] 35)) (w.heap.size + 1) 35 #[.int .i64 0, .int .i64 0, .slice none 0 0, .int .i64 0, .int .i64 0, .slice none 0 0]) := by
    have := bx_new8 (w.alloc (.cells #[.int .i64 what, .int .i64 n, .int .i64 e.seq, .int .i64 e.client, .int .i64 e.num, .int .i64 e.op, .string (strB e.key), .int .i64 e.size, .int .u32 (e.sum : Int), .slice loc lf c, .int .i64 r.kind, .int .i64 r.epoch, .slice yl.ma lm yl.mc, .int .i64 r.pos, .int .i64 r.last, .slice yl.ea le yl.ec] 43)) #[.int .i64 0, .int .i64 0, .slice none 0 0, .int .i64 0, .int .i64 0, .slice none 0 0] 35
    rw [World.size_alloc] at this
    exact this
  have HE : Hid (Below w.heap.size w ((w.alloc (.cells #[.int .i64 what, .int .i64 n, .int .i64 e.seq, .int .i64 e.client, .int .i64 e.num, .int .i64 e.op, .string (strB e.key), .int .i64 e.size, .int .u32 (e.sum : Int), .slice loc lf c, .int .i64 r.kind, .int .i64 r.epoch, .slice yl.ma lm yl.mc, .int .i64 r.pos, .int .i64 r.last, .slice yl.ea le yl.ec] 43)).alloc (.cells #[.int .i64 0, .int .i64 0, .slice none 0 0, .int .i64 0, .int .i64 0, .slice none 0 0] 35))) := (below_one w _).alloc (by simp) _
  have HSZ : Hid (((w.alloc (.cells #[.int .i64 what, .int .i64 n, .int .i64 e.seq, .int .i64 e.client, .int .i64 e.num, .int .i64 e.op, .string (strB e.key), .int .i64 e.size, .int .u32 (e.sum : Int), .slice loc lf c, .int .i64 r.kind, .int .i64 r.epoch, .slice yl.ma lm yl.mc, .int .i64 r.pos, .int .i64 r.last, .slice yl.ea le yl.ec] 43)).alloc (.cells #[.int .i64 0, .int .i64 0, .slice none 0 0, .int .i64 0, .int .i64 0, .slice none 0 0] 35)).heap.size = w.heap.size + 2) := by show _ = _; simp
  have HO := Lib.hid h
  have HR := Lib.hid (hr.below HE.out)
  have HS := Lib.hid (hs.below HE.out)
  have HOK := Lib.hid hok
  have HW := Lib.hid hw
  have HBL : B < w.heap.size + 1 := by obtain ⟨_, _, h1, _⟩ := h; have := bx_lt h1.now; omega
  clear h hr hs hok hM
  go_enter Tryz.func6, Tryz.ntmps6
  go_upto_region 1 with fail
  generalize ((w.alloc (.cells #[.int .i64 what, .int .i64 n, .int .i64 e.seq, .int .i64 e.client, .int .i64 e.num, .int .i64 e.op, .string (strB e.key), .int .i64 e.size, .int .u32 (e.sum : Int), .slice loc lf c, .int .i64 r.kind, .int .i64 r.epoch, .slice yl.ma lm yl.mc, .int .i64 r.pos, .int .i64 r.last, .slice yl.ea le yl.ec] 43)).alloc (.cells #[.int .i64 0, .int .i64 0, .slice none 0 0, .int .i64 0, .int .i64 0, .slice none 0 0] 35)) = w0 at *
  have k0 := HB3.out.cell 0 (.int .i64 what) rfl
  obtain ⟨ym, zm, h1, h2, h3⟩ := HO.out
  have HMB := Lib.hid (h1.below HE.out).now
  have HZ0 := Lib.hid h3
  obtain ⟨lsm, hlsm⟩ : ∃ q, m.staged.mem.length = q := ⟨_, rfl⟩
  obtain ⟨lse, hlse⟩ : ∃ q, m.staged.ents.length = q := ⟨_, rfl⟩
  have HLSM := Lib.hid hlsm
  have HLSE := Lib.hid hlse
  have k7 := HMB.out.cell 7 (.int .i64 m.staged.kind) rfl
  have k8 := HMB.out.cell 8 (.int .i64 m.staged.epoch) rfl
  have k9 := HMB.out.cell 9 (.slice zm.ma lsm zm.mc) (by rw [← hlsm]; rfl)
  have k10 := HMB.out.cell 10 (.int .i64 m.staged.pos) rfl
  have k11 := HMB.out.cell 11 (.int .i64 m.staged.last) rfl
  have k12 := HMB.out.cell 12 (.slice zm.ea lse zm.ec) (by rw [← hlse]; rfl)
  clear hlsm hlse
  clear h1 h2 h3 HO HR HS HW
  have f1 : decide (n < 1) = true := decide_eq_true hc
  clear hc
  go_upto_region 20 with fail
  have hbl := below_one w0 (.cells #[.int .i64 m.staged.kind, .int .i64 m.staged.epoch, .slice zm.ma lsm zm.mc, .int .i64 m.staged.pos, .int .i64 m.staged.last, .slice zm.ea lse zm.ec] 35)
  have HRB : Hid (Bx (w0.alloc (.cells #[.int .i64 m.staged.kind, .int .i64 m.staged.epoch, .slice zm.ma lsm zm.mc, .int .i64 m.staged.pos, .int .i64 m.staged.last, .slice zm.ea lse zm.ec] 35)) w0.heap.size 35 #[.int .i64 m.staged.kind, .int .i64 m.staged.epoch, .slice zm.ma lsm zm.mc, .int .i64 m.staged.pos, .int .i64 m.staged.last, .slice zm.ea lse zm.ec]) := bx_new8 _ _ _
  have HB3' := Lib.hid (HB3.out.chg (gs := []) (Chg.of_below hbl) (by simp))
  have HB4' := Lib.hid (HB4.out.chg (gs := []) (Chg.of_below hbl) (by simp))
  have HMB' := Lib.hid (HMB.out.chg (gs := []) (Chg.of_below hbl) (by simp))
  have HE' := Lib.hid (HE.out.trans (hbl.mono HE.out.size))
  clear hbl HE HB3 HB4 HMB
  have HB3 := HB3'
  clear HB3'
  have HB4 := HB4'
  clear HB4'
  have HMB := HMB'
  clear HMB'
  have HE := HE'
  clear HE'
  generalize hRB : w0.heap.size = RB at *
  have HRBE := Lib.hid hRB
  clear hRB
  generalize (w0.alloc (.cells #[.int .i64 m.staged.kind, .int .i64 m.staged.epoch, .slice zm.ma lsm zm.mc, .int .i64 m.staged.pos, .int .i64 m.staged.last, .slice zm.ea lse zm.ec] 35)) = w1 at *
  clear k0 k7 k8 k9 k10 k11 k12
  have r0 := HRB.out.cell 0 (.int .i64 m.staged.kind) rfl
  have fr := HRB.out.free 0
  go_upto_region 21 with fail
  have HC1 := chg_set1 w1 RB 0 (.int .i64 4)
  have HRB' := Lib.hid (HRB.out.set (C' := #[.int .i64 4, .int .i64 m.staged.epoch, .slice zm.ma lsm zm.mc, .int .i64 m.staged.pos, .int .i64 m.staged.last, .slice zm.ea lse zm.ec]) 0 (.int .i64 4) rfl)
  have HB3' := Lib.hid (HB3.out.chg HC1 (by have h1 := HRBE.out; have h2 := HSZ.out; simp; omega))
  have HB4' := Lib.hid (HB4.out.chg HC1 (by have h1 := HRBE.out; have h2 := HSZ.out; simp; omega))
  have HMB' := Lib.hid (HMB.out.chg HC1 (by have h1 := HRBE.out; have h2 := HSZ.out; simp; omega))
  have HE' : Hid (Below w.heap.size w (w1.setCell ⟨RB, 0, none⟩ (.int .i64 4))) := HC1.below HE.out HE.out.size (by have h1 := HRBE.out; have h2 := HSZ.out; simp; omega)
  clear HC1 HRB HB3 HB4 HMB HE r0 fr
  have HRB := HRB'
  have HB3 := HB3'
  have HB4 := HB4'
  have HMB := HMB'
  have HE := HE'
  clear HRB' HB3' HB4' HMB' HE'
  generalize (w1.setCell ⟨RB, 0, none⟩ (.int .i64 4)) = w3 at *
  refine wp_region_ext (by kernel_rfl) ?_
  have hbd : Below w3.heap.size w3 w3.drew := Below.drew (Below.refl _ w3)
  have HRB' := Lib.hid (HRB.out.chg (gs := []) (Chg.of_below hbd) (by simp))
  have HB3' := Lib.hid (HB3.out.chg (gs := []) (Chg.of_below hbd) (by simp))
  have HB4' := Lib.hid (HB4.out.chg (gs := []) (Chg.of_below hbd) (by simp))
  have HMB' := Lib.hid (HMB.out.chg (gs := []) (Chg.of_below hbd) (by simp))
  have HE' := Lib.hid (HE.out.trans (hbd.mono HE.out.size))
  clear hbd HE HRB HB3 HB4 HMB
  have HRB := HRB'
  clear HRB'
  have HB3 := HB3'
  clear HB3'
  have HB4 := HB4'
  clear HB4'
  have HMB := HMB'
  clear HMB'
  have HE := HE'
  clear HE'
  generalize w3.drew = wd at *
  refine wpAnyH_tk (i := 0) 111 (v := ?_) rfl rfl (by kernel_rfl) (by kernel_rfl) (by kernel_rfl) (by rfl) (fun wq hwq => ?_) ?_
  rotate_left
  · (go_simp <;> with_reducible rfl)
  simp only [List.setIfInBounds_toArray, List.set_cons_zero, List.set_cons_succ]
  refine wpAnyH_tk (i := 1) 112 (v := ?_) rfl rfl (by kernel_rfl) (by kernel_rfl) (by kernel_rfl) (by rfl) (fun wq hwq => ?_) ?_
  rotate_left
  · (have hx := cell_later hwq (HB3.out.cell 1 (.int .i64 n) rfl); go_simp <;> with_reducible rfl)
  simp only [List.setIfInBounds_toArray, List.set_cons_zero, List.set_cons_succ]
  refine wpAnyH_tk (i := 2) 113 (v := ?_) rfl rfl (by kernel_rfl) (by kernel_rfl) (by kernel_rfl) (by rfl) (fun wq hwq => ?_) ?_
  rotate_left
  · (have hx := f1; go_simp <;> with_reducible rfl)
  simp only [List.setIfInBounds_toArray, List.set_cons_zero, List.set_cons_succ]
  refine wpAnyH_tk (i := 3) 114 (v := ?_) rfl rfl (by kernel_rfl) (by kernel_rfl) (by kernel_rfl) (by rfl) (fun wq hwq => ?_) ?_
  rotate_left
  · (go_simp <;> with_reducible rfl)
  simp only [List.setIfInBounds_toArray, List.set_cons_zero, List.set_cons_succ]
  refine wpAnyH_not (i := 4) 115 rfl rfl (by kernel_rfl) (by kernel_rfl) (by kernel_rfl) (by rfl) ?_
  simp only [List.setIfInBounds_toArray, List.set_cons_zero, List.set_cons_succ]
  refine wpAnyH_not (i := 5) 116 rfl rfl (by kernel_rfl) (by kernel_rfl) (by kernel_rfl) (by rfl) ?_
  simp only [List.setIfInBounds_toArray, List.set_cons_zero, List.set_cons_succ]
  refine wpAnyH_not (i := 6) 117 rfl rfl (by kernel_rfl) (by kernel_rfl) (by kernel_rfl) (by rfl) ?_
  simp only [List.setIfInBounds_toArray, List.set_cons_zero, List.set_cons_succ]
  refine wpAnyH_not (i := 7) 118 rfl rfl (by kernel_rfl) (by kernel_rfl) (by kernel_rfl) (by rfl) ?_
  simp only [List.setIfInBounds_toArray, List.set_cons_zero, List.set_cons_succ]
  refine wpAnyH_not (i := 8) 119 rfl rfl (by kernel_rfl) (by kernel_rfl) (by kernel_rfl) (by rfl) ?_
  simp only [List.setIfInBounds_toArray, List.set_cons_zero, List.set_cons_succ]
  refine wpAnyH_not (i := 9) 120 rfl rfl (by kernel_rfl) (by kernel_rfl) (by kernel_rfl) (by rfl) ?_
  simp only [List.setIfInBounds_toArray, List.set_cons_zero, List.set_cons_succ]
  refine wpAnyH_not (i := 10) 121 rfl rfl (by kernel_rfl) (by kernel_rfl) (by kernel_rfl) (by rfl) ?_
  simp only [List.setIfInBounds_toArray, List.set_cons_zero, List.set_cons_succ]
  refine wpAnyH_not (i := 11) 122 rfl rfl (by kernel_rfl) (by kernel_rfl) (by kernel_rfl) (by rfl) ?_
  simp only [List.setIfInBounds_toArray, List.set_cons_zero, List.set_cons_succ]
  refine wpAnyH_not (i := 12) 123 rfl rfl (by kernel_rfl) (by kernel_rfl) (by kernel_rfl) (by rfl) ?_
  simp only [List.setIfInBounds_toArray, List.set_cons_zero, List.set_cons_succ]
  refine wpAnyH_tk (i := 13) 124 (v := ?_) rfl rfl (by kernel_rfl) (by kernel_rfl) (by kernel_rfl) (by rfl) (fun wq hwq => ?_) ?_
  rotate_left
  · (go_simp <;> with_reducible rfl)
  simp only [List.setIfInBounds_toArray, List.set_cons_zero, List.set_cons_succ]
  refine wpAnyH_done (by kernel_rfl) ?_ _
  refine NoPanic.normal ?_
  go_wp2_with (first
    | (refine wpList_ldX 35 6 _ RB 0 #[.int .i64 4, .int .i64 m.staged.epoch, .slice zm.ma lsm zm.mc, .int .i64 m.staged.pos, .int .i64 m.staged.last, .slice zm.ea lse zm.ec] rfl rfl rfl (by kernel_rfl) (by kernel_rfl) rfl (fun j v hv => (by rw [Nat.zero_add]; exact HRB.out.cell j v hv)) ?_)
    | (refine wpList_st 35 6 (w.heap.size + 1) 0 35 #[.int .i64 4, .int .i64 m.staged.epoch, .slice zm.ma lsm zm.mc, .int .i64 m.staged.pos, .int .i64 m.staged.last, .slice zm.ea lse zm.ec] #[.int .i64 0, .int .i64 0, .slice none 0 0, .int .i64 0, .int .i64 0, .slice none 0 0] #[.int .i64 4, .int .i64 m.staged.epoch, .slice zm.ma lsm zm.mc, .int .i64 m.staged.pos, .int .i64 m.staged.last, .slice zm.ea lse zm.ec] _ _ rfl rfl rfl rfl rfl (by kernel_rfl) rfl HB4.out (by show 6 ≤ 6; omega) (by simp [Value.oneCell']) rfl ?_; intro w9 hb9 hc9; have HB9 := Lib.hid hb9; have HC9 := Lib.hid hc9; clear hb9 hc9))
  have q0 := HB9.out.cell 0 (.int .i64 4) rfl
  have q1 := HB9.out.cell 1 (.int .i64 m.staged.epoch) rfl
  have q2 := HB9.out.cell 2 (.slice zm.ma lsm zm.mc) rfl
  have q3 := HB9.out.cell 3 (.int .i64 m.staged.pos) rfl
  have q4 := HB9.out.cell 4 (.int .i64 m.staged.last) rfl
  have q5 := HB9.out.cell 5 (.slice zm.ea lse zm.ec) rfl
  refine bodyPost_ret (v := .tuple #[.agg #[.int .i64 4, .int .i64 m.staged.epoch, .slice zm.ma lsm zm.mc, .int .i64 m.staged.pos, .int .i64 m.staged.last, .slice zm.ea lse zm.ec], .bool true, .int .i64 8, .bool true]) (by simp [results, Tryz.results6, go_sem, q0, q1, q2, q3, q4, q5]) rfl ?_
  have EX9 : Below w.heap.size w w9 := HC9.out.below HE.out HE.out.size (by simp)
  exact ⟨zm, by rw [← HLSM.out, ← HLSE.out]; rfl, (rk_four (HZ0.out.below EX9)), EX9⟩

set_option maxRecDepth 100000 in
set_option maxHeartbeats 4000000 in
theorem deed_3b (hin : DeIn M w B m e loc c r yl lf lm le) (hwh : what = 3) (hc : ¬ n < 1) (hd : m.staged.epoch ≠ n) :
    Calls Tryz.prog 6 #[.pointer (some ⟨B, 0, none⟩), .agg #[.int .i64 what, .int .i64 n, .int .i64 e.seq, .int .i64 e.client, .int .i64 e.num, .int .i64 e.op, .string (strB e.key), .int .i64 e.size, .int .u32 (e.sum : Int), .slice loc lf c, .int .i64 r.kind, .int .i64 r.epoch, .slice yl.ma lm yl.mc, .int .i64 r.pos, .int .i64 r.last, .slice yl.ea le yl.ec]] w (RetDe M w (recAct m) true 8 true) := by
  have d0 : (what == 0) = false := by rw [hwh]; rfl
  have d1 : (what == 1) = false := by rw [hwh]; rfl
  have d2 : (what == 2) = false := by rw [hwh]; rfl
  have d3 : (what == 3) = true := by rw [hwh]; rfl
  clear hwh
  obtain ⟨h, hr, hs, hw, hM, hm, hok, hlf, hlm, hle⟩ := hin
  have HR0 := Lib.hid hr
  have HLF := Lib.hid hlf
  have HLM := Lib.hid hlm
  have HLE := Lib.hid hle
  have HMM := Lib.hid hM
  have HB3 : Hid (Bx ((w.alloc (.cells #[.int .i64 what, .int .i64 n, .int .i64 e.seq, .int .i64 e.client, .int .i64 e.num, .int .i64 e.op, .string (strB e.key), .int .i64 e.size, .int .u32 (e.sum : Int), .slice loc lf c, .int .i64 r.kind, .int .i64 r.epoch, .slice yl.ma lm yl.mc, .int .i64 r.pos, .int .i64 r.last, .slice yl.ea le yl.ec] 43)).alloc (.cells #[.int .i64 0, .int .i64 0, .slice none 0 0, .int .i64 0, .int .i64 0, .slice none 0 0] 35)) w.heap.size 43 #[.int .i64 what, .int .i64 n, .int .i64 e.seq, .int .i64 e.client, .int .i64 e.num, .int .i64 e.op, .string (strB e.key), .int .i64 e.size, .int .u32 (e.sum : Int), .slice loc lf c, .int .i64 r.kind, .int .i64 r.epoch, .slice yl.ma lm yl.mc, .int .i64 r.pos, .int .i64 r.last, .slice yl.ea le yl.ec]) := (bx_new8 w _ 43).chg (gs := []) (Chg.of_below (below_one _ _)) (by simp)
  have HB4 : Hid (Bx ((w.alloc (.cells #[.int .i64 what, .int .i64 n, .int .i64 e.seq, .int .i64 e.client, .int .i64 e.num, .int .i64 e.op, .string (strB e.key), .int .i64 e.size, .int .u32 (e.sum : Int), .slice loc lf c, .int .i64 r.kind, .int .i64 r.epoch, .slice yl.ma lm yl.mc, .int .i64 r.pos, .int .i64 r.last, .slice yl.ea le yl.ec] 43)).alloc (.cells #[.int .i64 0, .int .i64 0, .slice none 0 0, .int .i64 0, .int .i64 0, .slice none 0 0] 35)) (w.heap.size + 1) 35 #[.int .i64 0, .int .i64 0, .slice none 0 0, .int .i64 0, .int .i64 0, .slice none 0 0]) := by
    have := bx_new8 (w.alloc (.cells #[.int .i64 what, .int .i64 n, .int .i64 e.seq, .int .i64 e.client, .int .i64 e.num, .int .i64 e.op, .string (strB e.key), .int .i64 e.size, .int .u32 (e.sum : Int), .slice loc lf c, .int .i64 r.kind, .int .i64 r.epoch, .slice yl.ma lm yl.mc, .int .i64 r.pos, .int .i64 r.last, .slice yl.ea le yl.ec] 43)) #[.int .i64 0, .int .i64 0, .slice none 0 0, .int .i64 0, .int .i64 0, .slice none 0 0] 35
    rw [World.size_alloc] at this
    exact this
  have HE : Hid (Below w.heap.size w ((w.alloc (.cells #[.int .i64 what, .int .i64 n, .int .i64 e.seq, .int .i64 e.client, .int .i64 e.num, .int .i64 e.op, .string (strB e.key), .int .i64 e.size, .int .u32 (e.sum : Int), .slice loc lf c, .int .i64 r.kind, .int .i64 r.epoch, .slice yl.ma lm yl.mc, .int .i64 r.pos, .int .i64 r.last, .slice yl.ea le yl.ec] 43)).alloc (.cells #[.int .i64 0, .int .i64 0, .slice none 0 0, .int .i64 0, .int .i64 0, .slice none 0 0] 35))) := (below_one w _).alloc (by simp) _
  have HSZ : Hid (((w.alloc (.cells #[.int .i64 what, .int .i64 n, .int .i64 e.seq, .int .i64 e.client, .int .i64 e.num, .int .i64 e.op, .string (strB e.key), .int .i64 e.size, .int .u32 (e.sum : Int), .slice loc lf c, .int .i64 r.kind, .int .i64 r.epoch, .slice yl.ma lm yl.mc, .int .i64 r.pos, .int .i64 r.last, .slice yl.ea le yl.ec] 43)).alloc (.cells #[.int .i64 0, .int .i64 0, .slice none 0 0, .int .i64 0, .int .i64 0, .slice none 0 0] 35)).heap.size = w.heap.size + 2) := by show _ = _; simp
  have HO := Lib.hid h
  have HR := Lib.hid (hr.below HE.out)
  have HS := Lib.hid (hs.below HE.out)
  have HOK := Lib.hid hok
  have HW := Lib.hid hw
  have HBL : B < w.heap.size + 1 := by obtain ⟨_, _, h1, _⟩ := h; have := bx_lt h1.now; omega
  clear h hr hs hok hM
  go_enter Tryz.func6, Tryz.ntmps6
  go_upto_region 1 with fail
  generalize ((w.alloc (.cells #[.int .i64 what, .int .i64 n, .int .i64 e.seq, .int .i64 e.client, .int .i64 e.num, .int .i64 e.op, .string (strB e.key), .int .i64 e.size, .int .u32 (e.sum : Int), .slice loc lf c, .int .i64 r.kind, .int .i64 r.epoch, .slice yl.ma lm yl.mc, .int .i64 r.pos, .int .i64 r.last, .slice yl.ea le yl.ec] 43)).alloc (.cells #[.int .i64 0, .int .i64 0, .slice none 0 0, .int .i64 0, .int .i64 0, .slice none 0 0] 35)) = w0 at *
  have k0 := HB3.out.cell 0 (.int .i64 what) rfl
  obtain ⟨ym, zm, h1, h2, h3⟩ := HO.out
  have HMB := Lib.hid (h1.below HE.out).now
  have HZ0 := Lib.hid h3
  obtain ⟨lsm, hlsm⟩ : ∃ q, m.staged.mem.length = q := ⟨_, rfl⟩
  obtain ⟨lse, hlse⟩ : ∃ q, m.staged.ents.length = q := ⟨_, rfl⟩
  have HLSM := Lib.hid hlsm
  have HLSE := Lib.hid hlse
  have k7 := HMB.out.cell 7 (.int .i64 m.staged.kind) rfl
  have k8 := HMB.out.cell 8 (.int .i64 m.staged.epoch) rfl
  have k9 := HMB.out.cell 9 (.slice zm.ma lsm zm.mc) (by rw [← hlsm]; rfl)
  have k10 := HMB.out.cell 10 (.int .i64 m.staged.pos) rfl
  have k11 := HMB.out.cell 11 (.int .i64 m.staged.last) rfl
  have k12 := HMB.out.cell 12 (.slice zm.ea lse zm.ec) (by rw [← hlse]; rfl)
  clear hlsm hlse
  clear h1 h2 h3 HO HR HS HW
  have f1 : decide (n < 1) = false := decide_eq_false hc
  have f2 : (m.staged.epoch != n) = true := by simp [hd]
  clear hc hd
  go_upto_region 20 with fail
  have hbl := below_one w0 (.cells #[.int .i64 m.staged.kind, .int .i64 m.staged.epoch, .slice zm.ma lsm zm.mc, .int .i64 m.staged.pos, .int .i64 m.staged.last, .slice zm.ea lse zm.ec] 35)
  have HRB : Hid (Bx (w0.alloc (.cells #[.int .i64 m.staged.kind, .int .i64 m.staged.epoch, .slice zm.ma lsm zm.mc, .int .i64 m.staged.pos, .int .i64 m.staged.last, .slice zm.ea lse zm.ec] 35)) w0.heap.size 35 #[.int .i64 m.staged.kind, .int .i64 m.staged.epoch, .slice zm.ma lsm zm.mc, .int .i64 m.staged.pos, .int .i64 m.staged.last, .slice zm.ea lse zm.ec]) := bx_new8 _ _ _
  have HB3' := Lib.hid (HB3.out.chg (gs := []) (Chg.of_below hbl) (by simp))
  have HB4' := Lib.hid (HB4.out.chg (gs := []) (Chg.of_below hbl) (by simp))
  have HMB' := Lib.hid (HMB.out.chg (gs := []) (Chg.of_below hbl) (by simp))
  have HE' := Lib.hid (HE.out.trans (hbl.mono HE.out.size))
  clear hbl HE HB3 HB4 HMB
  have HB3 := HB3'
  clear HB3'
  have HB4 := HB4'
  clear HB4'
  have HMB := HMB'
  clear HMB'
  have HE := HE'
  clear HE'
  generalize hRB : w0.heap.size = RB at *
  have HRBE := Lib.hid hRB
  clear hRB
  generalize (w0.alloc (.cells #[.int .i64 m.staged.kind, .int .i64 m.staged.epoch, .slice zm.ma lsm zm.mc, .int .i64 m.staged.pos, .int .i64 m.staged.last, .slice zm.ea lse zm.ec] 35)) = w1 at *
  clear k0 k7 k8 k9 k10 k11 k12
  have r0 := HRB.out.cell 0 (.int .i64 m.staged.kind) rfl
  have fr := HRB.out.free 0
  go_upto_region 21 with fail
  have HC1 := chg_set1 w1 RB 0 (.int .i64 4)
  have HRB' := Lib.hid (HRB.out.set (C' := #[.int .i64 4, .int .i64 m.staged.epoch, .slice zm.ma lsm zm.mc, .int .i64 m.staged.pos, .int .i64 m.staged.last, .slice zm.ea lse zm.ec]) 0 (.int .i64 4) rfl)
  have HB3' := Lib.hid (HB3.out.chg HC1 (by have h1 := HRBE.out; have h2 := HSZ.out; simp; omega))
  have HB4' := Lib.hid (HB4.out.chg HC1 (by have h1 := HRBE.out; have h2 := HSZ.out; simp; omega))
  have HMB' := Lib.hid (HMB.out.chg HC1 (by have h1 := HRBE.out; have h2 := HSZ.out; simp; omega))
  have HE' : Hid (Below w.heap.size w (w1.setCell ⟨RB, 0, none⟩ (.int .i64 4))) := HC1.below HE.out HE.out.size (by have h1 := HRBE.out; have h2 := HSZ.out; simp; omega)
  clear HC1 HRB HB3 HB4 HMB HE r0 fr
  have HRB := HRB'
  have HB3 := HB3'
  have HB4 := HB4'
  have HMB := HMB'
  have HE := HE'
  clear HRB' HB3' HB4' HMB' HE'
  generalize (w1.setCell ⟨RB, 0, none⟩ (.int .i64 4)) = w3 at *
  refine wp_region_ext (by kernel_rfl) ?_
  have hbd : Below w3.heap.size w3 w3.drew := Below.drew (Below.refl _ w3)
  have HRB' := Lib.hid (HRB.out.chg (gs := []) (Chg.of_below hbd) (by simp))
  have HB3' := Lib.hid (HB3.out.chg (gs := []) (Chg.of_below hbd) (by simp))
  have HB4' := Lib.hid (HB4.out.chg (gs := []) (Chg.of_below hbd) (by simp))
  have HMB' := Lib.hid (HMB.out.chg (gs := []) (Chg.of_below hbd) (by simp))
  have HE' := Lib.hid (HE.out.trans (hbd.mono HE.out.size))
  clear hbd HE HRB HB3 HB4 HMB
  have HRB := HRB'
  clear HRB'
  have HB3 := HB3'
  clear HB3'
  have HB4 := HB4'
  clear HB4'
  have HMB := HMB'
  clear HMB'
  have HE := HE'
  clear HE'
  generalize w3.drew = wd at *
  refine wpAnyH_tk (i := 0) 111 (v := ?_) rfl rfl (by kernel_rfl) (by kernel_rfl) (by kernel_rfl) (by rfl) (fun wq hwq => ?_) ?_
  rotate_left
  · (go_simp <;> with_reducible rfl)
  simp only [List.setIfInBounds_toArray, List.set_cons_zero, List.set_cons_succ]
  refine wpAnyH_tk (i := 1) 112 (v := ?_) rfl rfl (by kernel_rfl) (by kernel_rfl) (by kernel_rfl) (by rfl) (fun wq hwq => ?_) ?_
  rotate_left
  · (have hx := cell_later hwq (HB3.out.cell 1 (.int .i64 n) rfl); go_simp <;> with_reducible rfl)
  simp only [List.setIfInBounds_toArray, List.set_cons_zero, List.set_cons_succ]
  refine wpAnyH_tk (i := 2) 113 (v := ?_) rfl rfl (by kernel_rfl) (by kernel_rfl) (by kernel_rfl) (by rfl) (fun wq hwq => ?_) ?_
  rotate_left
  · (have hx := f1; go_simp <;> with_reducible rfl)
  simp only [List.setIfInBounds_toArray, List.set_cons_zero, List.set_cons_succ]
  refine wpAnyH_tk (i := 3) 114 (v := ?_) rfl rfl (by kernel_rfl) (by kernel_rfl) (by kernel_rfl) (by rfl) (fun wq hwq => ?_) ?_
  rotate_left
  · (go_simp <;> with_reducible rfl)
  simp only [List.setIfInBounds_toArray, List.set_cons_zero, List.set_cons_succ]
  refine wpAnyH_tk (i := 4) 115 (v := ?_) rfl rfl (by kernel_rfl) (by kernel_rfl) (by kernel_rfl) (by rfl) (fun wq hwq => ?_) ?_
  rotate_left
  · (go_simp <;> with_reducible rfl)
  simp only [List.setIfInBounds_toArray, List.set_cons_zero, List.set_cons_succ]
  refine wpAnyH_tk (i := 5) 116 (v := ?_) rfl rfl (by kernel_rfl) (by kernel_rfl) (by kernel_rfl) (by rfl) (fun wq hwq => ?_) ?_
  rotate_left
  · (go_simp <;> with_reducible rfl)
  simp only [List.setIfInBounds_toArray, List.set_cons_zero, List.set_cons_succ]
  refine wpAnyH_tk (i := 6) 117 (v := ?_) rfl rfl (by kernel_rfl) (by kernel_rfl) (by kernel_rfl) (by rfl) (fun wq hwq => ?_) ?_
  rotate_left
  · (go_simp <;> with_reducible rfl)
  simp only [List.setIfInBounds_toArray, List.set_cons_zero, List.set_cons_succ]
  refine wpAnyH_tk (i := 7) 118 (v := ?_) rfl rfl (by kernel_rfl) (by kernel_rfl) (by kernel_rfl) (by rfl) (fun wq hwq => ?_) ?_
  rotate_left
  · (go_simp <;> with_reducible rfl)
  simp only [List.setIfInBounds_toArray, List.set_cons_zero, List.set_cons_succ]
  refine wpAnyH_tk (i := 8) 119 (v := ?_) rfl rfl (by kernel_rfl) (by kernel_rfl) (by kernel_rfl) (by rfl) (fun wq hwq => ?_) ?_
  rotate_left
  · (go_simp <;> with_reducible rfl)
  simp only [List.setIfInBounds_toArray, List.set_cons_zero, List.set_cons_succ]
  refine wpAnyH_tk (i := 9) 120 (v := ?_) rfl rfl (by kernel_rfl) (by kernel_rfl) (by kernel_rfl) (by rfl) (fun wq hwq => ?_) ?_
  rotate_left
  · (have hx := cell_later hwq (HMB.out.cell 8 (.int .i64 m.staged.epoch) rfl); go_simp <;> with_reducible rfl)
  simp only [List.setIfInBounds_toArray, List.set_cons_zero, List.set_cons_succ]
  refine wpAnyH_tk (i := 10) 121 (v := ?_) rfl rfl (by kernel_rfl) (by kernel_rfl) (by kernel_rfl) (by rfl) (fun wq hwq => ?_) ?_
  rotate_left
  · (go_simp <;> with_reducible rfl)
  simp only [List.setIfInBounds_toArray, List.set_cons_zero, List.set_cons_succ]
  refine wpAnyH_tk (i := 11) 122 (v := ?_) rfl rfl (by kernel_rfl) (by kernel_rfl) (by kernel_rfl) (by rfl) (fun wq hwq => ?_) ?_
  rotate_left
  · (have hx := cell_later hwq (HB3.out.cell 1 (.int .i64 n) rfl); go_simp <;> with_reducible rfl)
  simp only [List.setIfInBounds_toArray, List.set_cons_zero, List.set_cons_succ]
  refine wpAnyH_tk (i := 12) 123 (v := ?_) rfl rfl (by kernel_rfl) (by kernel_rfl) (by kernel_rfl) (by rfl) (fun wq hwq => ?_) ?_
  rotate_left
  · (have hx := f2; go_simp <;> with_reducible rfl)
  simp only [List.setIfInBounds_toArray, List.set_cons_zero, List.set_cons_succ]
  refine wpAnyH_tk (i := 13) 124 (v := ?_) rfl rfl (by kernel_rfl) (by kernel_rfl) (by kernel_rfl) (by rfl) (fun wq hwq => ?_) ?_
  rotate_left
  · (go_simp <;> with_reducible rfl)
  simp only [List.setIfInBounds_toArray, List.set_cons_zero, List.set_cons_succ]
  refine wpAnyH_done (by kernel_rfl) ?_ _
  refine NoPanic.normal ?_
  go_wp2_with (first
    | (refine wpList_ldX 35 6 _ RB 0 #[.int .i64 4, .int .i64 m.staged.epoch, .slice zm.ma lsm zm.mc, .int .i64 m.staged.pos, .int .i64 m.staged.last, .slice zm.ea lse zm.ec] rfl rfl rfl (by kernel_rfl) (by kernel_rfl) rfl (fun j v hv => (by rw [Nat.zero_add]; exact HRB.out.cell j v hv)) ?_)
    | (refine wpList_st 35 6 (w.heap.size + 1) 0 35 #[.int .i64 4, .int .i64 m.staged.epoch, .slice zm.ma lsm zm.mc, .int .i64 m.staged.pos, .int .i64 m.staged.last, .slice zm.ea lse zm.ec] #[.int .i64 0, .int .i64 0, .slice none 0 0, .int .i64 0, .int .i64 0, .slice none 0 0] #[.int .i64 4, .int .i64 m.staged.epoch, .slice zm.ma lsm zm.mc, .int .i64 m.staged.pos, .int .i64 m.staged.last, .slice zm.ea lse zm.ec] _ _ rfl rfl rfl rfl rfl (by kernel_rfl) rfl HB4.out (by show 6 ≤ 6; omega) (by simp [Value.oneCell']) rfl ?_; intro w9 hb9 hc9; have HB9 := Lib.hid hb9; have HC9 := Lib.hid hc9; clear hb9 hc9))
  have q0 := HB9.out.cell 0 (.int .i64 4) rfl
  have q1 := HB9.out.cell 1 (.int .i64 m.staged.epoch) rfl
  have q2 := HB9.out.cell 2 (.slice zm.ma lsm zm.mc) rfl
  have q3 := HB9.out.cell 3 (.int .i64 m.staged.pos) rfl
  have q4 := HB9.out.cell 4 (.int .i64 m.staged.last) rfl
  have q5 := HB9.out.cell 5 (.slice zm.ea lse zm.ec) rfl
  refine bodyPost_ret (v := .tuple #[.agg #[.int .i64 4, .int .i64 m.staged.epoch, .slice zm.ma lsm zm.mc, .int .i64 m.staged.pos, .int .i64 m.staged.last, .slice zm.ea lse zm.ec], .bool true, .int .i64 8, .bool true]) (by simp [results, Tryz.results6, go_sem, q0, q1, q2, q3, q4, q5]) rfl ?_
  have EX9 : Below w.heap.size w w9 := HC9.out.below HE.out HE.out.size (by simp)
  exact ⟨zm, by rw [← HLSM.out, ← HLSE.out]; rfl, (rk_four (HZ0.out.below EX9)), EX9⟩

set_option maxRecDepth 100000 in
set_option maxHeartbeats 4000000 in
theorem deed_3c (hin : DeIn M w B m e loc c r yl lf lm le) (hwh : what = 3) (hc : ¬ n < 1) (hd : m.staged.epoch = n) :
    Calls Tryz.prog 6 #[.pointer (some ⟨B, 0, none⟩), .agg #[.int .i64 what, .int .i64 n, .int .i64 e.seq, .int .i64 e.client, .int .i64 e.num, .int .i64 e.op, .string (strB e.key), .int .i64 e.size, .int .u32 (e.sum : Int), .slice loc lf c, .int .i64 r.kind, .int .i64 r.epoch, .slice yl.ma lm yl.mc, .int .i64 r.pos, .int .i64 r.last, .slice yl.ea le yl.ec]] w (RetDe M w (recAct m) true 0 true) := by
  have d0 : (what == 0) = false := by rw [hwh]; rfl
  have d1 : (what == 1) = false := by rw [hwh]; rfl
  have d2 : (what == 2) = false := by rw [hwh]; rfl
  have d3 : (what == 3) = true := by rw [hwh]; rfl
  clear hwh
  obtain ⟨h, hr, hs, hw, hM, hm, hok, hlf, hlm, hle⟩ := hin
  have HR0 := Lib.hid hr
  have HLF := Lib.hid hlf
  have HLM := Lib.hid hlm
  have HLE := Lib.hid hle
  have HMM := Lib.hid hM
  have HB3 : Hid (Bx ((w.alloc (.cells #[.int .i64 what, .int .i64 n, .int .i64 e.seq, .int .i64 e.client, .int .i64 e.num, .int .i64 e.op, .string (strB e.key), .int .i64 e.size, .int .u32 (e.sum : Int), .slice loc lf c, .int .i64 r.kind, .int .i64 r.epoch, .slice yl.ma lm yl.mc, .int .i64 r.pos, .int .i64 r.last, .slice yl.ea le yl.ec] 43)).alloc (.cells #[.int .i64 0, .int .i64 0, .slice none 0 0, .int .i64 0, .int .i64 0, .slice none 0 0] 35)) w.heap.size 43 #[.int .i64 what, .int .i64 n, .int .i64 e.seq, .int .i64 e.client, .int .i64 e.num, .int .i64 e.op, .string (strB e.key), .int .i64 e.size, .int .u32 (e.sum : Int), .slice loc lf c, .int .i64 r.kind, .int .i64 r.epoch, .slice yl.ma lm yl.mc, .int .i64 r.pos, .int .i64 r.last, .slice yl.ea le yl.ec]) := (bx_new8 w _ 43).chg (gs := []) (Chg.of_below (below_one _ _)) (by simp)
  have HB4 : Hid (Bx ((w.alloc (.cells #[.int .i64 what, .int .i64 n, .int .i64 e.seq, .int .i64 e.client, .int .i64 e.num, .int .i64 e.op, .string (strB e.key), .int .i64 e.size, .int .u32 (e.sum : Int), .slice loc lf c, .int .i64 r.kind, .int .i64 r.epoch, .slice yl.ma lm yl.mc, .int .i64 r.pos, .int .i64 r.last, .slice yl.ea le yl.ec] 43)).alloc (.cells #[.int .i64 0, .int .i64 0, .slice none 0 0, .int .i64 0, .int .i64 0, .slice none 0 0] 35)) (w.heap.size + 1) 35 #[.int .i64 0, .int .i64 0, .slice none 0 0, .int .i64 0, .int .i64 0, .slice none 0 0]) := by
    have := bx_new8 (w.alloc (.cells #[.int .i64 what, .int .i64 n, .int .i64 e.seq, .int .i64 e.client, .int .i64 e.num, .int .i64 e.op, .string (strB e.key), .int .i64 e.size, .int .u32 (e.sum : Int), .slice loc lf c, .int .i64 r.kind, .int .i64 r.epoch, .slice yl.ma lm yl.mc, .int .i64 r.pos, .int .i64 r.last, .slice yl.ea le yl.ec] 43)) #[.int .i64 0, .int .i64 0, .slice none 0 0, .int .i64 0, .int .i64 0, .slice none 0 0] 35
    rw [World.size_alloc] at this
    exact this
  have HE : Hid (Below w.heap.size w ((w.alloc (.cells #[.int .i64 what, .int .i64 n, .int .i64 e.seq, .int .i64 e.client, .int .i64 e.num, .int .i64 e.op, .string (strB e.key), .int .i64 e.size, .int .u32 (e.sum : Int), .slice loc lf c, .int .i64 r.kind, .int .i64 r.epoch, .slice yl.ma lm yl.mc, .int .i64 r.pos, .int .i64 r.last, .slice yl.ea le yl.ec] 43)).alloc (.cells #[.int .i64 0, .int .i64 0, .slice none 0 0, .int .i64 0, .int .i64 0, .slice none 0 0] 35))) := (below_one w _).alloc (by simp) _
  have HSZ : Hid (((w.alloc (.cells #[.int .i64 what, .int .i64 n, .int .i64 e.seq, .int .i64 e.client, .int .i64 e.num, .int .i64 e.op, .string (strB e.key), .int .i64 e.size, .int .u32 (e.sum : Int), .slice loc lf c, .int .i64 r.kind, .int .i64 r.epoch, .slice yl.ma lm yl.mc, .int .i64 r.pos, .int .i64 r.last, .slice yl.ea le yl.ec] 43)).alloc (.cells #[.int .i64 0, .int .i64 0, .slice none 0 0, .int .i64 0, .int .i64 0, .slice none 0 0] 35)).heap.size = w.heap.size + 2) := by show _ = _; simp
  have HO := Lib.hid h
  have HR := Lib.hid (hr.below HE.out)
  have HS := Lib.hid (hs.below HE.out)
  have HOK := Lib.hid hok
  have HW := Lib.hid hw
  have HBL : B < w.heap.size + 1 := by obtain ⟨_, _, h1, _⟩ := h; have := bx_lt h1.now; omega
  clear h hr hs hok hM
  go_enter Tryz.func6, Tryz.ntmps6
  go_upto_region 1 with fail
  generalize ((w.alloc (.cells #[.int .i64 what, .int .i64 n, .int .i64 e.seq, .int .i64 e.client, .int .i64 e.num, .int .i64 e.op, .string (strB e.key), .int .i64 e.size, .int .u32 (e.sum : Int), .slice loc lf c, .int .i64 r.kind, .int .i64 r.epoch, .slice yl.ma lm yl.mc, .int .i64 r.pos, .int .i64 r.last, .slice yl.ea le yl.ec] 43)).alloc (.cells #[.int .i64 0, .int .i64 0, .slice none 0 0, .int .i64 0, .int .i64 0, .slice none 0 0] 35)) = w0 at *
  have k0 := HB3.out.cell 0 (.int .i64 what) rfl
  obtain ⟨ym, zm, h1, h2, h3⟩ := HO.out
  have HMB := Lib.hid (h1.below HE.out).now
  have HZ0 := Lib.hid h3
  obtain ⟨lsm, hlsm⟩ : ∃ q, m.staged.mem.length = q := ⟨_, rfl⟩
  obtain ⟨lse, hlse⟩ : ∃ q, m.staged.ents.length = q := ⟨_, rfl⟩
  have HLSM := Lib.hid hlsm
  have HLSE := Lib.hid hlse
  have k7 := HMB.out.cell 7 (.int .i64 m.staged.kind) rfl
  have k8 := HMB.out.cell 8 (.int .i64 m.staged.epoch) rfl
  have k9 := HMB.out.cell 9 (.slice zm.ma lsm zm.mc) (by rw [← hlsm]; rfl)
  have k10 := HMB.out.cell 10 (.int .i64 m.staged.pos) rfl
  have k11 := HMB.out.cell 11 (.int .i64 m.staged.last) rfl
  have k12 := HMB.out.cell 12 (.slice zm.ea lse zm.ec) (by rw [← hlse]; rfl)
  clear hlsm hlse
  clear h1 h2 h3 HO HR HS HW
  have f1 : decide (n < 1) = false := decide_eq_false hc
  have f2 : (m.staged.epoch != n) = false := by simp [hd]
  clear hc hd
  go_upto_region 20 with fail
  have hbl := below_one w0 (.cells #[.int .i64 m.staged.kind, .int .i64 m.staged.epoch, .slice zm.ma lsm zm.mc, .int .i64 m.staged.pos, .int .i64 m.staged.last, .slice zm.ea lse zm.ec] 35)
  have HRB : Hid (Bx (w0.alloc (.cells #[.int .i64 m.staged.kind, .int .i64 m.staged.epoch, .slice zm.ma lsm zm.mc, .int .i64 m.staged.pos, .int .i64 m.staged.last, .slice zm.ea lse zm.ec] 35)) w0.heap.size 35 #[.int .i64 m.staged.kind, .int .i64 m.staged.epoch, .slice zm.ma lsm zm.mc, .int .i64 m.staged.pos, .int .i64 m.staged.last, .slice zm.ea lse zm.ec]) := bx_new8 _ _ _
  have HB3' := Lib.hid (HB3.out.chg (gs := []) (Chg.of_below hbl) (by simp))
  have HB4' := Lib.hid (HB4.out.chg (gs := []) (Chg.of_below hbl) (by simp))
  have HMB' := Lib.hid (HMB.out.chg (gs := []) (Chg.of_below hbl) (by simp))
  have HE' := Lib.hid (HE.out.trans (hbl.mono HE.out.size))
  clear hbl HE HB3 HB4 HMB
  have HB3 := HB3'
  clear HB3'
  have HB4 := HB4'
  clear HB4'
  have HMB := HMB'
  clear HMB'
  have HE := HE'
  clear HE'
  generalize hRB : w0.heap.size = RB at *
  have HRBE := Lib.hid hRB
  clear hRB
  generalize (w0.alloc (.cells #[.int .i64 m.staged.kind, .int .i64 m.staged.epoch, .slice zm.ma lsm zm.mc, .int .i64 m.staged.pos, .int .i64 m.staged.last, .slice zm.ea lse zm.ec] 35)) = w1 at *
  clear k0 k7 k8 k9 k10 k11 k12
  have r0 := HRB.out.cell 0 (.int .i64 m.staged.kind) rfl
  have fr := HRB.out.free 0
  go_upto_region 21 with fail
  have HC1 := chg_set1 w1 RB 0 (.int .i64 4)
  have HRB' := Lib.hid (HRB.out.set (C' := #[.int .i64 4, .int .i64 m.staged.epoch, .slice zm.ma lsm zm.mc, .int .i64 m.staged.pos, .int .i64 m.staged.last, .slice zm.ea lse zm.ec]) 0 (.int .i64 4) rfl)
  have HB3' := Lib.hid (HB3.out.chg HC1 (by have h1 := HRBE.out; have h2 := HSZ.out; simp; omega))
  have HB4' := Lib.hid (HB4.out.chg HC1 (by have h1 := HRBE.out; have h2 := HSZ.out; simp; omega))
  have HMB' := Lib.hid (HMB.out.chg HC1 (by have h1 := HRBE.out; have h2 := HSZ.out; simp; omega))
  have HE' : Hid (Below w.heap.size w (w1.setCell ⟨RB, 0, none⟩ (.int .i64 4))) := HC1.below HE.out HE.out.size (by have h1 := HRBE.out; have h2 := HSZ.out; simp; omega)
  clear HC1 HRB HB3 HB4 HMB HE r0 fr
  have HRB := HRB'
  have HB3 := HB3'
  have HB4 := HB4'
  have HMB := HMB'
  have HE := HE'
  clear HRB' HB3' HB4' HMB' HE'
  generalize (w1.setCell ⟨RB, 0, none⟩ (.int .i64 4)) = w3 at *
  refine wp_region_ext (by kernel_rfl) ?_
  have hbd : Below w3.heap.size w3 w3.drew := Below.drew (Below.refl _ w3)
  have HRB' := Lib.hid (HRB.out.chg (gs := []) (Chg.of_below hbd) (by simp))
  have HB3' := Lib.hid (HB3.out.chg (gs := []) (Chg.of_below hbd) (by simp))
  have HB4' := Lib.hid (HB4.out.chg (gs := []) (Chg.of_below hbd) (by simp))
  have HMB' := Lib.hid (HMB.out.chg (gs := []) (Chg.of_below hbd) (by simp))
  have HE' := Lib.hid (HE.out.trans (hbd.mono HE.out.size))
  clear hbd HE HRB HB3 HB4 HMB
  have HRB := HRB'
  clear HRB'
  have HB3 := HB3'
  clear HB3'
  have HB4 := HB4'
  clear HB4'
  have HMB := HMB'
  clear HMB'
  have HE := HE'
  clear HE'
  generalize w3.drew = wd at *
  refine wpAnyH_tk (i := 0) 111 (v := ?_) rfl rfl (by kernel_rfl) (by kernel_rfl) (by kernel_rfl) (by rfl) (fun wq hwq => ?_) ?_
  rotate_left
  · (go_simp <;> with_reducible rfl)
  simp only [List.setIfInBounds_toArray, List.set_cons_zero, List.set_cons_succ]
  refine wpAnyH_tk (i := 1) 112 (v := ?_) rfl rfl (by kernel_rfl) (by kernel_rfl) (by kernel_rfl) (by rfl) (fun wq hwq => ?_) ?_
  rotate_left
  · (have hx := cell_later hwq (HB3.out.cell 1 (.int .i64 n) rfl); go_simp <;> with_reducible rfl)
  simp only [List.setIfInBounds_toArray, List.set_cons_zero, List.set_cons_succ]
  refine wpAnyH_tk (i := 2) 113 (v := ?_) rfl rfl (by kernel_rfl) (by kernel_rfl) (by kernel_rfl) (by rfl) (fun wq hwq => ?_) ?_
  rotate_left
  · (have hx := f1; go_simp <;> with_reducible rfl)
  simp only [List.setIfInBounds_toArray, List.set_cons_zero, List.set_cons_succ]
  refine wpAnyH_tk (i := 3) 114 (v := ?_) rfl rfl (by kernel_rfl) (by kernel_rfl) (by kernel_rfl) (by rfl) (fun wq hwq => ?_) ?_
  rotate_left
  · (go_simp <;> with_reducible rfl)
  simp only [List.setIfInBounds_toArray, List.set_cons_zero, List.set_cons_succ]
  refine wpAnyH_tk (i := 4) 115 (v := ?_) rfl rfl (by kernel_rfl) (by kernel_rfl) (by kernel_rfl) (by rfl) (fun wq hwq => ?_) ?_
  rotate_left
  · (go_simp <;> with_reducible rfl)
  simp only [List.setIfInBounds_toArray, List.set_cons_zero, List.set_cons_succ]
  refine wpAnyH_tk (i := 5) 116 (v := ?_) rfl rfl (by kernel_rfl) (by kernel_rfl) (by kernel_rfl) (by rfl) (fun wq hwq => ?_) ?_
  rotate_left
  · (go_simp <;> with_reducible rfl)
  simp only [List.setIfInBounds_toArray, List.set_cons_zero, List.set_cons_succ]
  refine wpAnyH_tk (i := 6) 117 (v := ?_) rfl rfl (by kernel_rfl) (by kernel_rfl) (by kernel_rfl) (by rfl) (fun wq hwq => ?_) ?_
  rotate_left
  · (go_simp <;> with_reducible rfl)
  simp only [List.setIfInBounds_toArray, List.set_cons_zero, List.set_cons_succ]
  refine wpAnyH_tk (i := 7) 118 (v := ?_) rfl rfl (by kernel_rfl) (by kernel_rfl) (by kernel_rfl) (by rfl) (fun wq hwq => ?_) ?_
  rotate_left
  · (go_simp <;> with_reducible rfl)
  simp only [List.setIfInBounds_toArray, List.set_cons_zero, List.set_cons_succ]
  refine wpAnyH_tk (i := 8) 119 (v := ?_) rfl rfl (by kernel_rfl) (by kernel_rfl) (by kernel_rfl) (by rfl) (fun wq hwq => ?_) ?_
  rotate_left
  · (go_simp <;> with_reducible rfl)
  simp only [List.setIfInBounds_toArray, List.set_cons_zero, List.set_cons_succ]
  refine wpAnyH_tk (i := 9) 120 (v := ?_) rfl rfl (by kernel_rfl) (by kernel_rfl) (by kernel_rfl) (by rfl) (fun wq hwq => ?_) ?_
  rotate_left
  · (have hx := cell_later hwq (HMB.out.cell 8 (.int .i64 m.staged.epoch) rfl); go_simp <;> with_reducible rfl)
  simp only [List.setIfInBounds_toArray, List.set_cons_zero, List.set_cons_succ]
  refine wpAnyH_tk (i := 10) 121 (v := ?_) rfl rfl (by kernel_rfl) (by kernel_rfl) (by kernel_rfl) (by rfl) (fun wq hwq => ?_) ?_
  rotate_left
  · (go_simp <;> with_reducible rfl)
  simp only [List.setIfInBounds_toArray, List.set_cons_zero, List.set_cons_succ]
  refine wpAnyH_tk (i := 11) 122 (v := ?_) rfl rfl (by kernel_rfl) (by kernel_rfl) (by kernel_rfl) (by rfl) (fun wq hwq => ?_) ?_
  rotate_left
  · (have hx := cell_later hwq (HB3.out.cell 1 (.int .i64 n) rfl); go_simp <;> with_reducible rfl)
  simp only [List.setIfInBounds_toArray, List.set_cons_zero, List.set_cons_succ]
  refine wpAnyH_tk (i := 12) 123 (v := ?_) rfl rfl (by kernel_rfl) (by kernel_rfl) (by kernel_rfl) (by rfl) (fun wq hwq => ?_) ?_
  rotate_left
  · (have hx := f2; go_simp <;> with_reducible rfl)
  simp only [List.setIfInBounds_toArray, List.set_cons_zero, List.set_cons_succ]
  refine wpAnyH_tk (i := 13) 124 (v := ?_) rfl rfl (by kernel_rfl) (by kernel_rfl) (by kernel_rfl) (by rfl) (fun wq hwq => ?_) ?_
  rotate_left
  · (go_simp <;> with_reducible rfl)
  simp only [List.setIfInBounds_toArray, List.set_cons_zero, List.set_cons_succ]
  refine wpAnyH_done (by kernel_rfl) ?_ _
  refine NoPanic.normal ?_
  go_wp2_with (first
    | (refine wpList_ldX 35 6 _ RB 0 #[.int .i64 4, .int .i64 m.staged.epoch, .slice zm.ma lsm zm.mc, .int .i64 m.staged.pos, .int .i64 m.staged.last, .slice zm.ea lse zm.ec] rfl rfl rfl (by kernel_rfl) (by kernel_rfl) rfl (fun j v hv => (by rw [Nat.zero_add]; exact HRB.out.cell j v hv)) ?_)
    | (refine wpList_st 35 6 (w.heap.size + 1) 0 35 #[.int .i64 4, .int .i64 m.staged.epoch, .slice zm.ma lsm zm.mc, .int .i64 m.staged.pos, .int .i64 m.staged.last, .slice zm.ea lse zm.ec] #[.int .i64 0, .int .i64 0, .slice none 0 0, .int .i64 0, .int .i64 0, .slice none 0 0] #[.int .i64 4, .int .i64 m.staged.epoch, .slice zm.ma lsm zm.mc, .int .i64 m.staged.pos, .int .i64 m.staged.last, .slice zm.ea lse zm.ec] _ _ rfl rfl rfl rfl rfl (by kernel_rfl) rfl HB4.out (by show 6 ≤ 6; omega) (by simp [Value.oneCell']) rfl ?_; intro w9 hb9 hc9; have HB9 := Lib.hid hb9; have HC9 := Lib.hid hc9; clear hb9 hc9))
  have q0 := HB9.out.cell 0 (.int .i64 4) rfl
  have q1 := HB9.out.cell 1 (.int .i64 m.staged.epoch) rfl
  have q2 := HB9.out.cell 2 (.slice zm.ma lsm zm.mc) rfl
  have q3 := HB9.out.cell 3 (.int .i64 m.staged.pos) rfl
  have q4 := HB9.out.cell 4 (.int .i64 m.staged.last) rfl
  have q5 := HB9.out.cell 5 (.slice zm.ea lse zm.ec) rfl
  refine bodyPost_ret (v := .tuple #[.agg #[.int .i64 4, .int .i64 m.staged.epoch, .slice zm.ma lsm zm.mc, .int .i64 m.staged.pos, .int .i64 m.staged.last, .slice zm.ea lse zm.ec], .bool true, .int .i64 0, .bool true]) (by simp [results, Tryz.results6, go_sem, q0, q1, q2, q3, q4, q5]) rfl ?_
  have EX9 : Below w.heap.size w w9 := HC9.out.below HE.out HE.out.size (by simp)
  exact ⟨zm, by rw [← HLSM.out, ← HLSE.out]; rfl, (rk_four (HZ0.out.below EX9)), EX9⟩


set_option maxRecDepth 100000 in
set_option maxHeartbeats 4000000 in
theorem deed_4a (hin : DeIn M w B m e loc c r yl lf lm le) (w0_ : what ≠ 0) (w1_ : what ≠ 1) (w2_ : what ≠ 2) (w3_ : what ≠ 3) (hc : r.epoch ≤ m.now.epoch) :
    Calls Tryz.prog 6 #[.pointer (some ⟨B, 0, none⟩), .agg #[.int .i64 what, .int .i64 n, .int .i64 e.seq, .int .i64 e.client, .int .i64 e.num, .int .i64 e.op, .string (strB e.key), .int .i64 e.size, .int .u32 (e.sum : Int), .slice loc lf c, .int .i64 r.kind, .int .i64 r.epoch, .slice yl.ma lm yl.mc, .int .i64 r.pos, .int .i64 r.last, .slice yl.ea le yl.ec]] w (RetDe M w (recBegin r.epoch r.mem r.pos) true 8 true) := by
  have d0 : (what == 0) = false := by simp [w0_]
  have d1 : (what == 1) = false := by simp [w1_]
  have d2 : (what == 2) = false := by simp [w2_]
  have d3 : (what == 3) = false := by simp [w3_]
  clear w0_ w1_ w2_ w3_
  obtain ⟨h, hr, hs, hw, hM, hm, hok, hlf, hlm, hle⟩ := hin
  have HR0 := Lib.hid hr
  have HLF := Lib.hid hlf
  have HLM := Lib.hid hlm
  have HLE := Lib.hid hle
  have HMM := Lib.hid hM
  have HB3 : Hid (Bx ((w.alloc (.cells #[.int .i64 what, .int .i64 n, .int .i64 e.seq, .int .i64 e.client, .int .i64 e.num, .int .i64 e.op, .string (strB e.key), .int .i64 e.size, .int .u32 (e.sum : Int), .slice loc lf c, .int .i64 r.kind, .int .i64 r.epoch, .slice yl.ma lm yl.mc, .int .i64 r.pos, .int .i64 r.last, .slice yl.ea le yl.ec] 43)).alloc (.cells #[.int .i64 0, .int .i64 0, .slice none 0 0, .int .i64 0, .int .i64 0, .slice none 0 0] 35)) w.heap.size 43 #[.int .i64 what, .int .i64 n, .int .i64 e.seq, .int .i64 e.client, .int .i64 e.num, .int .i64 e.op, .string (strB e.key), .int .i64 e.size, .int .u32 (e.sum : Int), .slice loc lf c, .int .i64 r.kind, .int .i64 r.epoch, .slice yl.ma lm yl.mc, .int .i64 r.pos, .int .i64 r.last, .slice yl.ea le yl.ec]) := (bx_new8 w _ 43).chg (gs := []) (Chg.of_below (below_one _ _)) (by simp)
  have HB4 : Hid (Bx ((w.alloc (.cells #[.int .i64 what, .int .i64 n, .int .i64 e.seq, .int .i64 e.client, .int .i64 e.num, .int .i64 e.op, .string (strB e.key), .int .i64 e.size, .int .u32 (e.sum : Int), .slice loc lf c, .int .i64 r.kind, .int .i64 r.epoch, .slice yl.ma lm yl.mc, .int .i64 r.pos, .int .i64 r.last, .slice yl.ea le yl.ec] 43)).alloc (.cells #[.int .i64 0, .int .i64 0, .slice none 0 0, .int .i64 0, .int .i64 0, .slice none 0 0] 35)) (w.heap.size + 1) 35 #[.int .i64 0, .int .i64 0, .slice none 0 0, .int .i64 0, .int .i64 0, .slice none 0 0]) := by
    have := bx_new8 (w.alloc (.cells #[.int .i64 what, .int .i64 n, .int .i64 e.seq, .int .i64 e.client, .int .i64 e.num, .int .i64 e.op, .string (strB e.key), .int .i64 e.size, .int .u32 (e.sum : Int), .slice loc lf c, .int .i64 r.kind, .int .i64 r.epoch, .slice yl.ma lm yl.mc, .int .i64 r.pos, .int .i64 r.last, .slice yl.ea le yl.ec] 43)) #[.int .i64 0, .int .i64 0, .slice none 0 0, .int .i64 0, .int .i64 0, .slice none 0 0] 35
    rw [World.size_alloc] at this
    exact this
  have HE : Hid (Below w.heap.size w ((w.alloc (.cells #[.int .i64 what, .int .i64 n, .int .i64 e.seq, .int .i64 e.client, .int .i64 e.num, .int .i64 e.op, .string (strB e.key), .int .i64 e.size, .int .u32 (e.sum : Int), .slice loc lf c, .int .i64 r.kind, .int .i64 r.epoch, .slice yl.ma lm yl.mc, .int .i64 r.pos, .int .i64 r.last, .slice yl.ea le yl.ec] 43)).alloc (.cells #[.int .i64 0, .int .i64 0, .slice none 0 0, .int .i64 0, .int .i64 0, .slice none 0 0] 35))) := (below_one w _).alloc (by simp) _
  have HSZ : Hid (((w.alloc (.cells #[.int .i64 what, .int .i64 n, .int .i64 e.seq, .int .i64 e.client, .int .i64 e.num, .int .i64 e.op, .string (strB e.key), .int .i64 e.size, .int .u32 (e.sum : Int), .slice loc lf c, .int .i64 r.kind, .int .i64 r.epoch, .slice yl.ma lm yl.mc, .int .i64 r.pos, .int .i64 r.last, .slice yl.ea le yl.ec] 43)).alloc (.cells #[.int .i64 0, .int .i64 0, .slice none 0 0, .int .i64 0, .int .i64 0, .slice none 0 0] 35)).heap.size = w.heap.size + 2) := by show _ = _; simp
  have HO := Lib.hid h
  have HR := Lib.hid (hr.below HE.out)
  have HS := Lib.hid (hs.below HE.out)
  have HOK := Lib.hid hok
  have HW := Lib.hid hw
  have HBL : B < w.heap.size + 1 := by obtain ⟨_, _, h1, _⟩ := h; have := bx_lt h1.now; omega
  clear h hr hs hok hM
  go_enter Tryz.func6, Tryz.ntmps6
  go_upto_region 1 with fail
  generalize ((w.alloc (.cells #[.int .i64 what, .int .i64 n, .int .i64 e.seq, .int .i64 e.client, .int .i64 e.num, .int .i64 e.op, .string (strB e.key), .int .i64 e.size, .int .u32 (e.sum : Int), .slice loc lf c, .int .i64 r.kind, .int .i64 r.epoch, .slice yl.ma lm yl.mc, .int .i64 r.pos, .int .i64 r.last, .slice yl.ea le yl.ec] 43)).alloc (.cells #[.int .i64 0, .int .i64 0, .slice none 0 0, .int .i64 0, .int .i64 0, .slice none 0 0] 35)) = w0 at *
  have k0 := HB3.out.cell 0 (.int .i64 what) rfl
  obtain ⟨ym, zm, h1, h2, h3⟩ := HO.out
  have HMB := Lib.hid (h1.below HE.out).now
  have k11 := HB3.out.cell 11 (.int .i64 r.epoch) rfl
  have k12 := HB3.out.cell 12 (.slice yl.ma lm yl.mc) rfl
  have k13 := HB3.out.cell 13 (.int .i64 r.pos) rfl
  have k14 := HB3.out.cell 14 (.int .i64 r.last) rfl
  have k15 := HB3.out.cell 15 (.slice yl.ea le yl.ec) rfl
  clear h1 h2 h3 HO HR HS HW
  have f1 : decide (r.epoch ≤ m.now.epoch) = true := decide_eq_true hc
  clear hc
  go_upto_region 25 with fail
  have hbl := below_one w0 (.cells #[.int .i64 4, .int .i64 r.epoch, .slice yl.ma lm yl.mc, .int .i64 r.pos, .int .i64 0, .slice none 0 0] 35)
  have HRB : Hid (Bx (w0.alloc (.cells #[.int .i64 4, .int .i64 r.epoch, .slice yl.ma lm yl.mc, .int .i64 r.pos, .int .i64 0, .slice none 0 0] 35)) w0.heap.size 35 #[.int .i64 4, .int .i64 r.epoch, .slice yl.ma lm yl.mc, .int .i64 r.pos, .int .i64 0, .slice none 0 0]) := bx_new8 _ _ _
  have HB3' := Lib.hid (HB3.out.chg (gs := []) (Chg.of_below hbl) (by simp))
  have HB4' := Lib.hid (HB4.out.chg (gs := []) (Chg.of_below hbl) (by simp))
  have HMB' := Lib.hid (HMB.out.chg (gs := []) (Chg.of_below hbl) (by simp))
  have HE' := Lib.hid (HE.out.trans (hbl.mono HE.out.size))
  clear hbl HE HB3 HB4 HMB
  have HB3 := HB3'
  clear HB3'
  have HB4 := HB4'
  clear HB4'
  have HMB := HMB'
  clear HMB'
  have HE := HE'
  clear HE'
  generalize hRB : w0.heap.size = RB at *
  have HRBE := Lib.hid hRB
  clear hRB
  generalize (w0.alloc (.cells #[.int .i64 4, .int .i64 r.epoch, .slice yl.ma lm yl.mc, .int .i64 r.pos, .int .i64 0, .slice none 0 0] 35)) = w1 at *
  clear k0 k11 k12 k13 k14 k15
  refine wp_region_ext (by kernel_rfl) ?_
  have hbd : Below w1.heap.size w1 w1.drew := Below.drew (Below.refl _ w1)
  have HRB' := Lib.hid (HRB.out.chg (gs := []) (Chg.of_below hbd) (by simp))
  have HB3' := Lib.hid (HB3.out.chg (gs := []) (Chg.of_below hbd) (by simp))
  have HB4' := Lib.hid (HB4.out.chg (gs := []) (Chg.of_below hbd) (by simp))
  have HMB' := Lib.hid (HMB.out.chg (gs := []) (Chg.of_below hbd) (by simp))
  have HE' := Lib.hid (HE.out.trans (hbd.mono HE.out.size))
  clear hbd HE HRB HB3 HB4 HMB
  have HRB := HRB'
  clear HRB'
  have HB3 := HB3'
  clear HB3'
  have HB4 := HB4'
  clear HB4'
  have HMB := HMB'
  clear HMB'
  have HE := HE'
  clear HE'
  generalize w1.drew = wd at *
  refine wpAnyH_tk (i := 0) 134 (v := ?_) rfl rfl (by kernel_rfl) (by kernel_rfl) (by kernel_rfl) (by rfl) (fun wq hwq => ?_) ?_
  rotate_left
  · (go_simp <;> with_reducible rfl)
  simp only [List.setIfInBounds_toArray, List.set_cons_zero, List.set_cons_succ]
  refine wpAnyH_tk (i := 1) 135 (v := ?_) rfl rfl (by kernel_rfl) (by kernel_rfl) (by kernel_rfl) (by rfl) (fun wq hwq => ?_) ?_
  rotate_left
  · (go_simp <;> with_reducible rfl)
  simp only [List.setIfInBounds_toArray, List.set_cons_zero, List.set_cons_succ]
  refine wpAnyH_tk (i := 2) 136 (v := ?_) rfl rfl (by kernel_rfl) (by kernel_rfl) (by kernel_rfl) (by rfl) (fun wq hwq => ?_) ?_
  rotate_left
  · (have hx := cell_later hwq (HRB.out.cell 1 (.int .i64 r.epoch) rfl); go_simp <;> with_reducible rfl)
  simp only [List.setIfInBounds_toArray, List.set_cons_zero, List.set_cons_succ]
  refine wpAnyH_tk (i := 3) 137 (v := ?_) rfl rfl (by kernel_rfl) (by kernel_rfl) (by kernel_rfl) (by rfl) (fun wq hwq => ?_) ?_
  rotate_left
  · (go_simp <;> with_reducible rfl)
  simp only [List.setIfInBounds_toArray, List.set_cons_zero, List.set_cons_succ]
  refine wpAnyH_tk (i := 4) 138 (v := ?_) rfl rfl (by kernel_rfl) (by kernel_rfl) (by kernel_rfl) (by rfl) (fun wq hwq => ?_) ?_
  rotate_left
  · (go_simp <;> with_reducible rfl)
  simp only [List.setIfInBounds_toArray, List.set_cons_zero, List.set_cons_succ]
  refine wpAnyH_tk (i := 5) 139 (v := ?_) rfl rfl (by kernel_rfl) (by kernel_rfl) (by kernel_rfl) (by rfl) (fun wq hwq => ?_) ?_
  rotate_left
  · (go_simp <;> with_reducible rfl)
  simp only [List.setIfInBounds_toArray, List.set_cons_zero, List.set_cons_succ]
  refine wpAnyH_tk (i := 6) 140 (v := ?_) rfl rfl (by kernel_rfl) (by kernel_rfl) (by kernel_rfl) (by rfl) (fun wq hwq => ?_) ?_
  rotate_left
  · (go_simp <;> with_reducible rfl)
  simp only [List.setIfInBounds_toArray, List.set_cons_zero, List.set_cons_succ]
  refine wpAnyH_tk (i := 7) 141 (v := ?_) rfl rfl (by kernel_rfl) (by kernel_rfl) (by kernel_rfl) (by rfl) (fun wq hwq => ?_) ?_
  rotate_left
  · (go_simp <;> with_reducible rfl)
  simp only [List.setIfInBounds_toArray, List.set_cons_zero, List.set_cons_succ]
  refine wpAnyH_tk (i := 8) 142 (v := ?_) rfl rfl (by kernel_rfl) (by kernel_rfl) (by kernel_rfl) (by rfl) (fun wq hwq => ?_) ?_
  rotate_left
  · (have hx := cell_later hwq (HMB.out.cell 1 (.int .i64 m.now.epoch) rfl); go_simp <;> with_reducible rfl)
  simp only [List.setIfInBounds_toArray, List.set_cons_zero, List.set_cons_succ]
  refine wpAnyH_tk (i := 9) 143 (v := ?_) rfl rfl (by kernel_rfl) (by kernel_rfl) (by kernel_rfl) (by rfl) (fun wq hwq => ?_) ?_
  rotate_left
  · (have hx := f1; go_simp <;> with_reducible rfl)
  simp only [List.setIfInBounds_toArray, List.set_cons_zero, List.set_cons_succ]
  refine wpAnyH_done (by kernel_rfl) ?_ _
  refine NoPanic.normal ?_
  go_wp2_with (first
    | (refine wpList_ldX 35 6 _ RB 0 #[.int .i64 4, .int .i64 r.epoch, .slice yl.ma lm yl.mc, .int .i64 r.pos, .int .i64 0, .slice none 0 0] rfl rfl rfl (by kernel_rfl) (by kernel_rfl) rfl (fun j v hv => (by rw [Nat.zero_add]; exact HRB.out.cell j v hv)) ?_)
    | (refine wpList_st 35 6 (w.heap.size + 1) 0 35 #[.int .i64 4, .int .i64 r.epoch, .slice yl.ma lm yl.mc, .int .i64 r.pos, .int .i64 0, .slice none 0 0] #[.int .i64 0, .int .i64 0, .slice none 0 0, .int .i64 0, .int .i64 0, .slice none 0 0] #[.int .i64 4, .int .i64 r.epoch, .slice yl.ma lm yl.mc, .int .i64 r.pos, .int .i64 0, .slice none 0 0] _ _ rfl rfl rfl rfl rfl (by kernel_rfl) rfl HB4.out (by show 6 ≤ 6; omega) (by simp [Value.oneCell']) rfl ?_; intro w9 hb9 hc9; have HB9 := Lib.hid hb9; have HC9 := Lib.hid hc9; clear hb9 hc9))
  have q0 := HB9.out.cell 0 (.int .i64 4) rfl
  have q1 := HB9.out.cell 1 (.int .i64 r.epoch) rfl
  have q2 := HB9.out.cell 2 (.slice yl.ma lm yl.mc) rfl
  have q3 := HB9.out.cell 3 (.int .i64 r.pos) rfl
  have q4 := HB9.out.cell 4 (.int .i64 0) rfl
  have q5 := HB9.out.cell 5 (.slice none 0 0) rfl
  refine bodyPost_ret (v := .tuple #[.agg #[.int .i64 4, .int .i64 r.epoch, .slice yl.ma lm yl.mc, .int .i64 r.pos, .int .i64 0, .slice none 0 0], .bool true, .int .i64 8, .bool true]) (by simp [results, Tryz.results6, go_sem, q0, q1, q2, q3, q4, q5]) rfl ?_
  have EX9 : Below w.heap.size w w9 := HC9.out.below HE.out HE.out.size (by simp)
  exact ⟨{ yl with ea := none, ec := 0, xs := [] }, by rw [← HLM.out]; rfl, (HR0.out.below EX9).begin, EX9⟩

set_option maxRecDepth 100000 in
set_option maxHeartbeats 4000000 in
theorem deed_4b (hin : DeIn M w B m e loc c r yl lf lm le) (w0_ : what ≠ 0) (w1_ : what ≠ 1) (w2_ : what ≠ 2) (w3_ : what ≠ 3) (hc : ¬ r.epoch ≤ m.now.epoch) :
    Calls Tryz.prog 6 #[.pointer (some ⟨B, 0, none⟩), .agg #[.int .i64 what, .int .i64 n, .int .i64 e.seq, .int .i64 e.client, .int .i64 e.num, .int .i64 e.op, .string (strB e.key), .int .i64 e.size, .int .u32 (e.sum : Int), .slice loc lf c, .int .i64 r.kind, .int .i64 r.epoch, .slice yl.ma lm yl.mc, .int .i64 r.pos, .int .i64 r.last, .slice yl.ea le yl.ec]] w (RetDe M w (recBegin r.epoch r.mem r.pos) true 0 true) := by
  have d0 : (what == 0) = false := by simp [w0_]
  have d1 : (what == 1) = false := by simp [w1_]
  have d2 : (what == 2) = false := by simp [w2_]
  have d3 : (what == 3) = false := by simp [w3_]
  clear w0_ w1_ w2_ w3_
  obtain ⟨h, hr, hs, hw, hM, hm, hok, hlf, hlm, hle⟩ := hin
  have HR0 := Lib.hid hr
  have HLF := Lib.hid hlf
  have HLM := Lib.hid hlm
  have HLE := Lib.hid hle
  have HMM := Lib.hid hM
  have HB3 : Hid (Bx ((w.alloc (.cells #[.int .i64 what, .int .i64 n, .int .i64 e.seq, .int .i64 e.client, .int .i64 e.num, .int .i64 e.op, .string (strB e.key), .int .i64 e.size, .int .u32 (e.sum : Int), .slice loc lf c, .int .i64 r.kind, .int .i64 r.epoch, .slice yl.ma lm yl.mc, .int .i64 r.pos, .int .i64 r.last, .slice yl.ea le yl.ec] 43)).alloc (.cells #[.int .i64 0, .int .i64 0, .slice none 0 0, .int .i64 0, .int .i64 0, .slice none 0 0] 35)) w.heap.size 43 #[.int .i64 what, .int .i64 n, .int .i64 e.seq, .int .i64 e.client, .int .i64 e.num, .int .i64 e.op, .string (strB e.key), .int .i64 e.size, .int .u32 (e.sum : Int), .slice loc lf c, .int .i64 r.kind, .int .i64 r.epoch, .slice yl.ma lm yl.mc, .int .i64 r.pos, .int .i64 r.last, .slice yl.ea le yl.ec]) := (bx_new8 w _ 43).chg (gs := []) (Chg.of_below (below_one _ _)) (by simp)
  have HB4 : Hid (Bx ((w.alloc (.cells #[.int .i64 what, .int .i64 n, .int .i64 e.seq, .int .i64 e.client, .int .i64 e.num, .int .i64 e.op, .string (strB e.key), .int .i64 e.size, .int .u32 (e.sum : Int), .slice loc lf c, .int .i64 r.kind, .int .i64 r.epoch, .slice yl.ma lm yl.mc, .int .i64 r.pos, .int .i64 r.last, .slice yl.ea le yl.ec] 43)).alloc (.cells #[.int .i64 0, .int .i64 0, .slice none 0 0, .int .i64 0, .int .i64 0, .slice none 0 0] 35)) (w.heap.size + 1) 35 #[.int .i64 0, .int .i64 0, .slice none 0 0, .int .i64 0, .int .i64 0, .slice none 0 0]) := by
    have := bx_new8 (w.alloc (.cells #[.int .i64 what, .int .i64 n, .int .i64 e.seq, .int .i64 e.client, .int .i64 e.num, .int .i64 e.op, .string (strB e.key), .int .i64 e.size, .int .u32 (e.sum : Int), .slice loc lf c, .int .i64 r.kind, .int .i64 r.epoch, .slice yl.ma lm yl.mc, .int .i64 r.pos, .int .i64 r.last, .slice yl.ea le yl.ec] 43)) #[.int .i64 0, .int .i64 0, .slice none 0 0, .int .i64 0, .int .i64 0, .slice none 0 0] 35
    rw [World.size_alloc] at this
    exact this
  have HE : Hid (Below w.heap.size w ((w.alloc (.cells #[.int .i64 what, .int .i64 n, .int .i64 e.seq, .int .i64 e.client, .int .i64 e.num, .int .i64 e.op, .string (strB e.key), .int .i64 e.size, .int .u32 (e.sum : Int), .slice loc lf c, .int .i64 r.kind, .int .i64 r.epoch, .slice yl.ma lm yl.mc, .int .i64 r.pos, .int .i64 r.last, .slice yl.ea le yl.ec] 43)).alloc (.cells #[.int .i64 0, .int .i64 0, .slice none 0 0, .int .i64 0, .int .i64 0, .slice none 0 0] 35))) := (below_one w _).alloc (by simp) _
  have HSZ : Hid (((w.alloc (.cells #[.int .i64 what, .int .i64 n, .int .i64 e.seq, .int .i64 e.client, .int .i64 e.num, .int .i64 e.op, .string (strB e.key), .int .i64 e.size, .int .u32 (e.sum : Int), .slice loc lf c, .int .i64 r.kind, .int .i64 r.epoch, .slice yl.ma lm yl.mc, .int .i64 r.pos, .int .i64 r.last, .slice yl.ea le yl.ec] 43)).alloc (.cells #[.int .i64 0, .int .i64 0, .slice none 0 0, .int .i64 0, .int .i64 0, .slice none 0 0] 35)).heap.size = w.heap.size + 2) := by show _ = _; simp
  have HO := Lib.hid h
  have HR := Lib.hid (hr.below HE.out)
  have HS := Lib.hid (hs.below HE.out)
  have HOK := Lib.hid hok
  have HW := Lib.hid hw
  have HBL : B < w.heap.size + 1 := by obtain ⟨_, _, h1, _⟩ := h; have := bx_lt h1.now; omega
  clear h hr hs hok hM
  go_enter Tryz.func6, Tryz.ntmps6
  go_upto_region 1 with fail
  generalize ((w.alloc (.cells #[.int .i64 what, .int .i64 n, .int .i64 e.seq, .int .i64 e.client, .int .i64 e.num, .int .i64 e.op, .string (strB e.key), .int .i64 e.size, .int .u32 (e.sum : Int), .slice loc lf c, .int .i64 r.kind, .int .i64 r.epoch, .slice yl.ma lm yl.mc, .int .i64 r.pos, .int .i64 r.last, .slice yl.ea le yl.ec] 43)).alloc (.cells #[.int .i64 0, .int .i64 0, .slice none 0 0, .int .i64 0, .int .i64 0, .slice none 0 0] 35)) = w0 at *
  have k0 := HB3.out.cell 0 (.int .i64 what) rfl
  obtain ⟨ym, zm, h1, h2, h3⟩ := HO.out
  have HMB := Lib.hid (h1.below HE.out).now
  have k11 := HB3.out.cell 11 (.int .i64 r.epoch) rfl
  have k12 := HB3.out.cell 12 (.slice yl.ma lm yl.mc) rfl
  have k13 := HB3.out.cell 13 (.int .i64 r.pos) rfl
  have k14 := HB3.out.cell 14 (.int .i64 r.last) rfl
  have k15 := HB3.out.cell 15 (.slice yl.ea le yl.ec) rfl
  clear h1 h2 h3 HO HR HS HW
  have f1 : decide (r.epoch ≤ m.now.epoch) = false := decide_eq_false hc
  clear hc
  go_upto_region 25 with fail
  have hbl := below_one w0 (.cells #[.int .i64 4, .int .i64 r.epoch, .slice yl.ma lm yl.mc, .int .i64 r.pos, .int .i64 0, .slice none 0 0] 35)
  have HRB : Hid (Bx (w0.alloc (.cells #[.int .i64 4, .int .i64 r.epoch, .slice yl.ma lm yl.mc, .int .i64 r.pos, .int .i64 0, .slice none 0 0] 35)) w0.heap.size 35 #[.int .i64 4, .int .i64 r.epoch, .slice yl.ma lm yl.mc, .int .i64 r.pos, .int .i64 0, .slice none 0 0]) := bx_new8 _ _ _
  have HB3' := Lib.hid (HB3.out.chg (gs := []) (Chg.of_below hbl) (by simp))
  have HB4' := Lib.hid (HB4.out.chg (gs := []) (Chg.of_below hbl) (by simp))
  have HMB' := Lib.hid (HMB.out.chg (gs := []) (Chg.of_below hbl) (by simp))
  have HE' := Lib.hid (HE.out.trans (hbl.mono HE.out.size))
  clear hbl HE HB3 HB4 HMB
  have HB3 := HB3'
  clear HB3'
  have HB4 := HB4'
  clear HB4'
  have HMB := HMB'
  clear HMB'
  have HE := HE'
  clear HE'
  generalize hRB : w0.heap.size = RB at *
  have HRBE := Lib.hid hRB
  clear hRB
  generalize (w0.alloc (.cells #[.int .i64 4, .int .i64 r.epoch, .slice yl.ma lm yl.mc, .int .i64 r.pos, .int .i64 0, .slice none 0 0] 35)) = w1 at *
  clear k0 k11 k12 k13 k14 k15
  refine wp_region_ext (by kernel_rfl) ?_
  have hbd : Below w1.heap.size w1 w1.drew := Below.drew (Below.refl _ w1)
  have HRB' := Lib.hid (HRB.out.chg (gs := []) (Chg.of_below hbd) (by simp))
  have HB3' := Lib.hid (HB3.out.chg (gs := []) (Chg.of_below hbd) (by simp))
  have HB4' := Lib.hid (HB4.out.chg (gs := []) (Chg.of_below hbd) (by simp))
  have HMB' := Lib.hid (HMB.out.chg (gs := []) (Chg.of_below hbd) (by simp))
  have HE' := Lib.hid (HE.out.trans (hbd.mono HE.out.size))
  clear hbd HE HRB HB3 HB4 HMB
  have HRB := HRB'
  clear HRB'
  have HB3 := HB3'
  clear HB3'
  have HB4 := HB4'
  clear HB4'
  have HMB := HMB'
  clear HMB'
  have HE := HE'
  clear HE'
  generalize w1.drew = wd at *
  refine wpAnyH_tk (i := 0) 134 (v := ?_) rfl rfl (by kernel_rfl) (by kernel_rfl) (by kernel_rfl) (by rfl) (fun wq hwq => ?_) ?_
  rotate_left
  · (go_simp <;> with_reducible rfl)
  simp only [List.setIfInBounds_toArray, List.set_cons_zero, List.set_cons_succ]
  refine wpAnyH_tk (i := 1) 135 (v := ?_) rfl rfl (by kernel_rfl) (by kernel_rfl) (by kernel_rfl) (by rfl) (fun wq hwq => ?_) ?_
  rotate_left
  · (go_simp <;> with_reducible rfl)
  simp only [List.setIfInBounds_toArray, List.set_cons_zero, List.set_cons_succ]
  refine wpAnyH_tk (i := 2) 136 (v := ?_) rfl rfl (by kernel_rfl) (by kernel_rfl) (by kernel_rfl) (by rfl) (fun wq hwq => ?_) ?_
  rotate_left
  · (have hx := cell_later hwq (HRB.out.cell 1 (.int .i64 r.epoch) rfl); go_simp <;> with_reducible rfl)
  simp only [List.setIfInBounds_toArray, List.set_cons_zero, List.set_cons_succ]
  refine wpAnyH_tk (i := 3) 137 (v := ?_) rfl rfl (by kernel_rfl) (by kernel_rfl) (by kernel_rfl) (by rfl) (fun wq hwq => ?_) ?_
  rotate_left
  · (go_simp <;> with_reducible rfl)
  simp only [List.setIfInBounds_toArray, List.set_cons_zero, List.set_cons_succ]
  refine wpAnyH_tk (i := 4) 138 (v := ?_) rfl rfl (by kernel_rfl) (by kernel_rfl) (by kernel_rfl) (by rfl) (fun wq hwq => ?_) ?_
  rotate_left
  · (go_simp <;> with_reducible rfl)
  simp only [List.setIfInBounds_toArray, List.set_cons_zero, List.set_cons_succ]
  refine wpAnyH_tk (i := 5) 139 (v := ?_) rfl rfl (by kernel_rfl) (by kernel_rfl) (by kernel_rfl) (by rfl) (fun wq hwq => ?_) ?_
  rotate_left
  · (go_simp <;> with_reducible rfl)
  simp only [List.setIfInBounds_toArray, List.set_cons_zero, List.set_cons_succ]
  refine wpAnyH_tk (i := 6) 140 (v := ?_) rfl rfl (by kernel_rfl) (by kernel_rfl) (by kernel_rfl) (by rfl) (fun wq hwq => ?_) ?_
  rotate_left
  · (go_simp <;> with_reducible rfl)
  simp only [List.setIfInBounds_toArray, List.set_cons_zero, List.set_cons_succ]
  refine wpAnyH_tk (i := 7) 141 (v := ?_) rfl rfl (by kernel_rfl) (by kernel_rfl) (by kernel_rfl) (by rfl) (fun wq hwq => ?_) ?_
  rotate_left
  · (go_simp <;> with_reducible rfl)
  simp only [List.setIfInBounds_toArray, List.set_cons_zero, List.set_cons_succ]
  refine wpAnyH_tk (i := 8) 142 (v := ?_) rfl rfl (by kernel_rfl) (by kernel_rfl) (by kernel_rfl) (by rfl) (fun wq hwq => ?_) ?_
  rotate_left
  · (have hx := cell_later hwq (HMB.out.cell 1 (.int .i64 m.now.epoch) rfl); go_simp <;> with_reducible rfl)
  simp only [List.setIfInBounds_toArray, List.set_cons_zero, List.set_cons_succ]
  refine wpAnyH_tk (i := 9) 143 (v := ?_) rfl rfl (by kernel_rfl) (by kernel_rfl) (by kernel_rfl) (by rfl) (fun wq hwq => ?_) ?_
  rotate_left
  · (have hx := f1; go_simp <;> with_reducible rfl)
  simp only [List.setIfInBounds_toArray, List.set_cons_zero, List.set_cons_succ]
  refine wpAnyH_done (by kernel_rfl) ?_ _
  refine NoPanic.normal ?_
  go_wp2_with (first
    | (refine wpList_ldX 35 6 _ RB 0 #[.int .i64 4, .int .i64 r.epoch, .slice yl.ma lm yl.mc, .int .i64 r.pos, .int .i64 0, .slice none 0 0] rfl rfl rfl (by kernel_rfl) (by kernel_rfl) rfl (fun j v hv => (by rw [Nat.zero_add]; exact HRB.out.cell j v hv)) ?_)
    | (refine wpList_st 35 6 (w.heap.size + 1) 0 35 #[.int .i64 4, .int .i64 r.epoch, .slice yl.ma lm yl.mc, .int .i64 r.pos, .int .i64 0, .slice none 0 0] #[.int .i64 0, .int .i64 0, .slice none 0 0, .int .i64 0, .int .i64 0, .slice none 0 0] #[.int .i64 4, .int .i64 r.epoch, .slice yl.ma lm yl.mc, .int .i64 r.pos, .int .i64 0, .slice none 0 0] _ _ rfl rfl rfl rfl rfl (by kernel_rfl) rfl HB4.out (by show 6 ≤ 6; omega) (by simp [Value.oneCell']) rfl ?_; intro w9 hb9 hc9; have HB9 := Lib.hid hb9; have HC9 := Lib.hid hc9; clear hb9 hc9))
  have q0 := HB9.out.cell 0 (.int .i64 4) rfl
  have q1 := HB9.out.cell 1 (.int .i64 r.epoch) rfl
  have q2 := HB9.out.cell 2 (.slice yl.ma lm yl.mc) rfl
  have q3 := HB9.out.cell 3 (.int .i64 r.pos) rfl
  have q4 := HB9.out.cell 4 (.int .i64 0) rfl
  have q5 := HB9.out.cell 5 (.slice none 0 0) rfl
  refine bodyPost_ret (v := .tuple #[.agg #[.int .i64 4, .int .i64 r.epoch, .slice yl.ma lm yl.mc, .int .i64 r.pos, .int .i64 0, .slice none 0 0], .bool true, .int .i64 0, .bool true]) (by simp [results, Tryz.results6, go_sem, q0, q1, q2, q3, q4, q5]) rfl ?_
  have EX9 : Below w.heap.size w w9 := HC9.out.below HE.out HE.out.size (by simp)
  exact ⟨{ yl with ea := none, ec := 0, xs := [] }, by rw [← HLM.out]; rfl, (HR0.out.below EX9).begin, EX9⟩


end

end Go.Proofs.YtdgpbdedaafdiaaGreat
