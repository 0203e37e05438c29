/-
  The laws' fixed fact, of layer 14.
-/
import Derived.Test.YtdgpbdedaafdiaaGreatWalksOB
import Derived.Test.YtdgpbdedaafdiaaGreatDk2
import Derived.Deep.DeepCutAuto
namespace Go.Proofs.YtdgpbdedaafdiaaGreat
open Go.RowKit

section
variable {w0 w w' : World} {SB R : Nat} {M : List Nat} {d : DS} {rs : List Pr} {s : Ss} {r : Pr} {rep : Bool} {e : Ending}

/-- The records behind one that has been written. -/
def put (rs : List Pr) (r : Pr) (rep : Bool) : List Pr := if rep then [r] else rs ++ [r]

theorem wq_ok (hp : Stp d rs) (hs : sndR r = true) (hroom : d.ps.length + (frm (encR r)).length ≤ d.room) :
    (wq d r rep).1 = 0 ∧ Stp (wq d r rep).2 (put rs r rep) ∧ (wq d r rep).2.room = d.room ∧ (wq d r rep).2.ps.length ≤ d.ps.length + (frm (encR r)).length := by
  have h0 : (wq d r rep).1 = 0 ∧ (wq d r rep).2.room = d.room ∧ (wq d r rep).2.ps.length ≤ d.ps.length + (frm (encR r)).length := by
    rw [wq_yes _ _ _ hs]
    unfold wrt
    rw [hp.on, hp.whole]
    cases rep
    · have hn : ¬ d.room < d.ps.length + (frm (encR r)).length := by omega
      simp only [Bool.false_eq_true, if_false, if_neg hn]
      exact ⟨trivial, trivial, by rw [List.length_append]; exact Nat.le_refl _⟩
    · have hn : ¬ d.room < 0 + (frm (encR r)).length := by omega
      simp only [Bool.false_eq_true, if_false, if_true, if_neg hn]
      exact ⟨trivial, trivial, by rw [List.length_append, List.length_nil]; omega⟩
  refine ⟨h0.1, ?_, h0.2⟩
  have h1 := stp_wq hp r rep
  unfold nxt at h1
  rw [if_pos h0.1] at h1
  exact h1

/-- A call that has been answered ahead of the disk. -/
theorem RetMu.told {n : Int} (hE : Ext w0 w) (h : So w w0.heap.size SB R M d rs s) (hr : RetMu w w0.heap.size SB R M (act d rs (some n) r rep).1 (act d rs (some n) r rep).2 e w') :
    e = .returned (.int .i64 n) ∧ Ext w0 w' ∧ ∃ M', So w' w0.heap.size SB R M' d rs s := by
  obtain ⟨h1, M', h2, h3⟩ := hr
  refine ⟨h1, (h3.below hE fun g hg => (h.mLt hg).1).1, M', ?_⟩
  have : So w' w0.heap.size SB R M' d rs (runS rs) := h2
  rwa [h.1] at this

/-- A call that has been done. -/
theorem RetMu.ok (hE : Ext w0 w) (h : So w w0.heap.size SB R M d rs s) (hp : Stp d rs) (hs : sndR r = true) (hroom : d.ps.length + (frm (encR r)).length ≤ d.room)
    (hr : RetMu w w0.heap.size SB R M (act d rs none r rep).1 (act d rs none r rep).2 e w') :
    e = .returned (.int .i64 0) ∧ Ext w0 w' ∧ ∃ M' d', So w' w0.heap.size SB R M' d' (put rs r rep) (runS (put rs r rep)) ∧ Stp d' (put rs r rep) ∧ d'.room = d.room ∧ d'.ps.length ≤ d.ps.length + (frm (encR r)).length := by
  obtain ⟨h1, M', h2, h3⟩ := hr
  obtain ⟨k1, k2, k3, k4⟩ := wq_ok (rep := rep) hp hs hroom
  refine ⟨?_, (h3.below hE fun g hg => (h.mLt hg).1).1, M', (wq d r rep).2, ?_, k2, k3, k4⟩
  · rw [h1]
    show Ending.returned (.int .i64 (wq d r rep).1) = _
    rw [k1]
  · have h4 : So w' w0.heap.size SB R M' (wq d r rep).2 (nxt rs r rep (wq d r rep).1) (runS (nxt rs r rep (wq d r rep).1)) := h2
    unfold nxt at h4
    rw [if_pos k1] at h4
    exact h4

end

theorem conf_f0 (z : Int) (y : Value) (w : World) : (Instr.field 32 (.agg #[.int .i64 z, y]) 0).run Tryz.prog w = .ok (.int .i64 z) w := by kernel_rfl
theorem conf_f1 (z : Int) (a : Option Addr) (n c : Nat) (w : World) : (Instr.field 32 (.agg #[.int .i64 z, .slice a n c]) 1).run Tryz.prog w = .ok (.slice a n c) w := by kernel_rfl

/-! The fixed fact's records. -/

def aw1 : Pe := ⟨1, 0, 1, 2, [], 0, 0, []⟩
def aw2 : Pe := ⟨3, 0, 0, 0, [], 0, 0, []⟩
def aw4 : Pe := ⟨2, 0, 0, 0, [], 0, 0, []⟩
def awB : Pr := recBegin 1 [4] 0

theorem aw1_wf : aw1.Wf := ⟨i64_k (by decide), i64_k (by decide), i64_k (by decide), i64_k (by decide), i64_k (by decide), by decide, bytes_nil, bytes_nil⟩
theorem aw2_wf : aw2.Wf := ⟨i64_k (by decide), i64_k (by decide), i64_k (by decide), i64_k (by decide), i64_k (by decide), by decide, bytes_nil, bytes_nil⟩
theorem aw4_wf : aw4.Wf := ⟨i64_k (by decide), i64_k (by decide), i64_k (by decide), i64_k (by decide), i64_k (by decide), by decide, bytes_nil, bytes_nil⟩
theorem awB_wf : awB.Wf := ⟨i64_k (by decide), i64_k (by decide), fun m hm => by rw [List.mem_singleton.mp hm]; exact i64_k (by decide), i64_k (by decide), i64_k (by decide), by simp [awB, recBegin]⟩

theorem aw_lenB : (frm (encR awB)).length ≤ 100 := by rw [frm_len]; decide +kernel
theorem aw_lenL : (frm (encR (recLog aw1))).length ≤ 100 := by rw [frm_len]; decide +kernel
theorem aw_lenS : (frm (encR recSeal)).length ≤ 100 := by rw [frm_len]; decide +kernel

def awR : List Pr := put (put (put [] awB true) (recLog aw1) false) recSeal false

theorem int_four {w : World} {M : List Nat} {B : Nat} (hB : w.heap.size = B) (hM : ∀ g ∈ M, g < B) : Kp M (w.alloc (.cells #[.int .i64 4] 3)) fun x => IntsAt x (some ⟨B, 0, none⟩) 1 [4] := fun gs x hc hg => by
  subst hB
  refine ⟨Nat.le_refl _, by unfold maxLen; omega, fun i => ?_, fun i hi => ?_⟩
  · rcases i with _ | i <;> simp
  · have hi' : i < 1 := hi
    obtain rfl : i = 0 := by omega
    refine ⟨w.heap.size, 0, rfl, hc.cell (by simp) fun e => ?_⟩
    rcases hg w.heap.size e with h | h
    · have := hM _ h; omega
    · rw [World.size_alloc] at h; omega

set_option maxRecDepth 100000 in
set_option maxHeartbeats 4000000 in
theorem awake14 (w : World) :
    Calls Tryz.prog 14 #[] w fun e w' => e = .returned (.bool true) ∧ Below w.heap.size w w' := by
  go_enter Tryz.func14, Tryz.ntmps14
  go_wp2_with fail
  refine (disk_new 10000 _).mono ?_
  rintro e w1 ⟨R, rfl, -, hd1, hb1⟩
  rw [show roomOf 10000 = 10000 by decide] at hd1
  have HD1 := Lib.hid hd1
  have E1 : Hid (Ext w w1) := hb1
  clear hd1 hb1
  go_wp2_with fail
  refine (stOpen_new HD1.out).mono ?_
  rintro e w2 ⟨SB, M2, rfl, hs2, hm2⟩
  have E2 : Hid (Ext w w2) := (hm2.below E1.out fun g hg => by rw [List.mem_singleton.mp hg]; exact HD1.out.base).1
  have HS2 := Lib.hid hs2
  have HP2 : Hid (Stp ⟨[], 10000, false, false, 0⟩ []) := ⟨rfl, rfl, rfl⟩
  clear hs2 hm2 HD1
  have HM3 := Lib.hid (int_four (w := w2) (M := M2) rfl fun g hg => (HS2.out.mLt hg).2)
  have hbl := below_one w2 (.cells #[.int .i64 4] 3)
  have HS3 := Lib.hid (HS2.out.below hbl)
  have E3 := Lib.hid (Ext.trans E2.out hbl)
  clear hbl HS2 E2 E1
  go_wp2_with fail
  refine (stBegin_any 1 0 _ 1 1 [4] rfl HS3.out (Nat.zero_le _) HM3.out awB_wf).mono ?_
  intro e w4 hw
  obtain ⟨rfl, he4, M4, d4, hs4, hp4, hr4, hl4⟩ := RetMu.ok (r := awB) (rep := true) E3.out HS3.out HP2.out (by decide) (by have := aw_lenB; show 0 + _ ≤ 10000; omega) hw
  have E4 := Lib.hid he4
  have HS4 := Lib.hid hs4
  have HP4 := Lib.hid hp4
  have HR4 : Hid (d4.room = 10000) := hr4
  have HL4 : Hid (d4.ps.length ≤ 100) := Nat.le_trans hl4 (by have := aw_lenB; show 0 + _ ≤ _; omega)
  clear hw he4 hs4 hp4 hr4 hl4 E3 HS3 HP2 HM3
  go_wp2_with fail
  refine (stLog_any aw1 none 0 0 rfl HS4.out (by decide) (fun _ _ _ _ => SeenAt.nil (Nat.zero_le _)) aw1_wf).mono ?_
  rw [show preLog (runS (put [] awB true)) aw1 = none from by decide]
  intro e w5 hw
  obtain ⟨rfl, he5, M5, d5, hs5, hp5, hr5, hl5⟩ := RetMu.ok E4.out HS4.out HP4.out (by decide) (by have := aw_lenL; have := HL4.out; rw [HR4.out]; omega) hw
  have E5 := Lib.hid he5
  have HS5 := Lib.hid hs5
  have HP5 := Lib.hid hp5
  have HR5 : Hid (d5.room = 10000) := by rw [hr5]; exact HR4
  have HL5 : Hid (d5.ps.length ≤ 200) := by have := aw_lenL; have := HL4.out; show _ ≤ _; omega
  clear hw he5 hs5 hp5 hr5 hl5 E4 HS4 HP4 HR4 HL4
  go_wp2_with fail
  refine (stLog_any aw2 none 0 0 rfl HS5.out (by decide) (fun _ _ _ _ => SeenAt.nil (Nat.zero_le _)) aw2_wf).mono ?_
  rw [show preLog (runS (put (put [] awB true) (recLog aw1) false)) aw2 = some 3 from by decide]
  intro e w6 hw
  obtain ⟨rfl, he6, M6, hs6⟩ := RetMu.told E5.out HS5.out hw
  have E6 := Lib.hid he6
  have HS6 := Lib.hid hs6
  clear hw he6 hs6 E5 HS5
  go_wp2_with fail
  refine (stSeal_any HS6.out (by decide)).mono ?_
  rw [show preSeal (runS (put (put [] awB true) (recLog aw1) false)) = none from by decide]
  intro e w7 hw
  obtain ⟨rfl, he7, M7, d7, hs7, hp7, hr7, hl7⟩ := RetMu.ok E6.out HS6.out HP5.out (by decide) (by have := aw_lenS; have := HL5.out; rw [HR5.out]; omega) hw
  have E7 := Lib.hid he7
  have HS7 : Hid (So w7 w.heap.size SB R M7 d7 awR (runS awR)) := hs7
  have HP7 : Hid (Stp d7 awR) := hp7
  clear hw he7 hs7 hp7 hr7 hl7 E6 HS6 HP5 HR5 HL5
  go_wp2_with fail
  refine (stLog_any aw4 none 0 0 rfl HS7.out (by decide) (fun _ _ _ _ => SeenAt.nil (Nat.zero_le _)) aw4_wf).mono ?_
  rw [show preLog (runS awR) aw4 = some 8 from by decide]
  intro e w8 hw
  obtain ⟨rfl, he8, M8, hs8⟩ := RetMu.told E7.out HS7.out hw
  have E8 := Lib.hid he8
  have HS8 := Lib.hid hs8
  clear hw he8 hs8 E7 HS7
  go_wp2_with fail
  refine (stOpen_again HS8.out HP7.out (by decide)).mono ?_
  rintro e w9 ⟨TB, M9, rfl, hs9, hm9, -⟩
  have E9 : Hid (Ext w w9) := (hm9.below E8.out fun g hg => (HS8.out.mLt hg).1).1
  obtain ⟨bp, L, ht⟩ := hs9.tel
  have HT := Lib.hid ht
  clear hs9 hm9 ht E8 HS8 HP7
  have K1 : Hid ((runS awR).sealed = true) := by show _ = _; decide
  have K2 : Hid (lastS (runS awR) = 1) := by show _ = _; decide
  have K3 : Hid ((runS awR).now.ents.length = 1) := by show _ = _; decide
  have K4 : Hid ((runS awR).now.epoch = 1) := by show _ = _; decide
  have K5 : Hid ((runS awR).now.mem.length = 1) := by show _ = _; decide
  have K6 : Hid (∀ e ∈ (runS awR).now.ents, e.frag.length ≤ 1000000000) := by show ∀ e ∈ _, _; decide
  generalize runS awR = t at *
  go_wp2_with fail
  refine (stSealed_any _ HT.out).mono ?_
  rintro e wa ⟨rfl, hba⟩
  rw [K1.out]
  have HTA := Lib.hid (HT.out.below hba)
  have EA := Lib.hid (Ext.trans E9.out hba)
  clear hba HT E9
  go_wp2_with fail
  refine (stLast_any _ HTA.out (by rw [K3.out]; decide)).mono ?_
  rintro e wb ⟨rfl, hbb⟩
  rw [K2.out]
  have HTB := Lib.hid (HTA.out.below hbb)
  have EB := Lib.hid (Ext.trans EA.out hbb)
  clear hbb HTA EA
  go_wp2_with fail
  refine (stEntries_any _ HTB.out (by rw [K3.out]; decide) K6.out).mono ?_
  rintro e wc ⟨a, c, rfl, -, hbc⟩
  rw [K3.out]
  have HTC := Lib.hid (HTB.out.below hbc)
  have EC := Lib.hid (Ext.trans EB.out hbc)
  clear hbc HTB EB
  go_wp2_with fail
  refine (stConf_any _ HTC.out (by rw [K5.out]; decide)).mono ?_
  rintro e wf ⟨a', c', rfl, -, hbf⟩
  rw [K4.out, K5.out]
  have EF := Lib.hid (Ext.trans EC.out hbf)
  clear hbf HTC EC
  have hf0 := conf_f0
  go_wp2
  go_ret
  exact ⟨rfl, EF.out⟩

end Go.Proofs.YtdgpbdedaafdiaaGreat
