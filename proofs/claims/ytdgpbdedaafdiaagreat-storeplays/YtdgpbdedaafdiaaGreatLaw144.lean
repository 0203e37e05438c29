/-
  The walk of the law StorePlays.
-/
import Derived.Test.YtdgpbdedaafdiaaGreatPlay14
import Derived.Deep.DeepCutAuto
namespace Go.Proofs.YtdgpbdedaafdiaaGreat
open Go.RowKit

theorem EnA.below {w w' : World} {a : Option Addr} {c : Nat} {xs : List El} (h : EnA w a c xs) (hb : Below w.heap.size w w') : EnA w' a c xs :=
  ⟨h.le, h.max, fun j u hj => by
    obtain ⟨b, off, e, hc⟩ := h.cell j u hj
    exact ⟨b, off, e, cell_later hb hc⟩, fun x hx => (h.seen x hx).below hb, h.wf⟩

theorem deed_len {m : Ss} {what n : Int} {e : Pe} {r p : Pr} {rep wri : Bool} {want : Int} (hok : m.Ok) (h6 : r.ents.length ≤ 6) (h : deedS m what n e r = (p, rep, want, wri)) : p.ents.length ≤ 10000 := by
  have hst : m.staged.ents.length ≤ 6 := by
    rcases hok.stg with e | e
    · rw [e]; exact Nat.zero_le _
    · exact e.1.few
  unfold deedS at h
  repeat' split at h
  all_goals (injection h with h1 h2; rw [← h1])
  all_goals first | (simp [recLog]; done) | (simp [pr0]; done) | (simp [recSeal]; done) | (simp [recStage]; omega) | (simp [recAct]; omega) | (simp [recBegin]; done)

set_option maxRecDepth 100000 in
set_option maxHeartbeats 40000000 in
theorem storePlays_walk (a0 : Option Addr) (len0 cap0 : Nat) (m0 : List As) (w : World) (w0 : m0.length = len0 ∧ Acts14 w a0 cap0 m0) :
    Calls Tryz.prog 3 #[.slice a0 len0 cap0] w fun e w' => e = .returned (.bool true) ∧ Below w.heap.size w w' := by
  have h0 : len0 ≤ maxLen := by have := w0.1; have := w0.2.le; have := w0.2.max; omega
  unfold maxLen at h0
  have HL0 := Lib.hid w0.1
  have HX0 := Lib.hid w0.2
  clear w0
  go_enter Tryz.func3, Tryz.ntmps3
  go_wp2_with fail
  refine (disk_new 1048576 _).mono ?_
  rintro e w1 ⟨R, rfl, -, hd1, hb1⟩
  rw [show roomOf 1048576 = 1048576 by decide] at hd1
  have HD1 := Lib.hid hd1
  have E1 : Hid (Ext w w1) := hb1
  clear hd1 hb1
  go_wp2_with fail
  refine (stOpen_new HD1.out).mono ?_
  rintro e w2 ⟨SB, M2, rfl, hs2, hm2⟩
  have E2 : Hid (Ext w w2) := (hm2.below E1.out fun g hg => by rw [List.mem_singleton.mp hg]; exact HD1.out.base).1
  have HP2 : Hid (Ph 0 ⟨[], 1048576, false, false, 0⟩ [] ss0 ss0 false false) := ⟨rfl, .inl ⟨rfl, rfl, rfl, rfl, rfl⟩⟩
  have hbl := below_one w2 (.cells #[.int .i64 0, .int .i64 0, .slice none 0 0, .int .i64 0, .int .i64 0, .slice none 0 0, .bool false, .int .i64 0, .int .i64 0, .slice none 0 0, .int .i64 0, .int .i64 0, .slice none 0 0] 37)
  have HMO3 : Hid (Mo M2 (w2.alloc (.cells #[.int .i64 0, .int .i64 0, .slice none 0 0, .int .i64 0, .int .i64 0, .slice none 0 0, .bool false, .int .i64 0, .int .i64 0, .slice none 0 0, .int .i64 0, .int .i64 0, .slice none 0 0] 37)) w2.heap.size ss0) := Nx.mo ⟨fun e => Nat.lt_irrefl _ (hs2.mLt e).2, ly0, ly0, bx_new8 _ _ _, rk0 _ _, rk0 _ _⟩
  have HS3 := Lib.hid (hs2.below hbl)
  have E3 := Lib.hid (Ext.trans E2.out hbl)
  clear hs2 hm2 HD1 E1 E2 hbl
  go_wp2
  go_loopw [4, 6, 7, 8, 9, 10] (fun sp mp dv tv wp i ws => ∃ (k : Nat) (M : List Nat) (d : DS) (rs : List Pr) (m W : Ss) (dn tn : Bool) (SB B BW : Nat), k ≤ len0 ∧ k ≤ 40 ∧ rs.length ≤ k ∧ sp = .pointer (some ⟨SB, 0, none⟩) ∧ mp = .pointer (some ⟨B, 0, none⟩) ∧ dv = .bool dn ∧ tv = .bool tn ∧ wp = .pointer (some ⟨BW, 0, none⟩) ∧ i = .int .i64 k ∧
    Hid (So ws w.heap.size SB R M d rs m) ∧ Hid (Mo M ws B m) ∧ Hid (Mo M ws BW W) ∧ Hid (Ph k d rs m W dn tn) ∧ Hid (Ext w ws)) (fun _ _ _ _ _ i _ => len0 - (intOf i).toNat)
  case atStart => exact ⟨0, M2, _, [], ss0, ss0, false, false, SB, w2.heap.size, w2.heap.size, Nat.zero_le _, Nat.zero_le _, Nat.le_refl _, rfl, rfl, rfl, rfl, rfl, rfl, HS3, HMO3, HMO3, HP2, E3⟩
  case round =>
    obtain ⟨k, M, d, rs, m, W, dn, tn, SB, B, BW, hk, hk40, hrs, rfl, rfl, rfl, rfl, rfl, rfl, HS, HMO, HMW, HP, HB⟩ := hrel
    by_cases hlt : k < len0 ∧ k < 40
    · have j0 : (0 : Int) ≤ (k : Int) := by omega
      have j1 : (k : Int) < (len0 : Int) := by omega
      have j2 : decide ((k : Int) < (len0 : Int)) = true := by simp; omega
      have j3 : decide ((k : Int) < 40) = true := by simp; omega
      have hlt1 := hlt.1
      have hlt2 := hlt.2
      obtain ⟨b, off, e0, hc⟩ := (HX0.out.below HB.out).cell k (by rw [HL0.out]; exact hlt1)
      subst e0
      have HMEM := Lib.hid (getD_mem m0 k as0 (by rw [HL0.out]; exact hlt1))
      generalize m0.getD k as0 = y at *
      obtain ⟨what, n, e, loc, c, r, ma, mc, ea, ec⟩ := y
      obtain ⟨lf, hlf⟩ : ∃ q, e.frag.length = q := ⟨_, rfl⟩
      obtain ⟨lm, hlm⟩ : ∃ q, r.mem.length = q := ⟨_, rfl⟩
      obtain ⟨le, hle⟩ : ∃ q, r.ents.length = q := ⟨_, rfl⟩
      have HLF := Lib.hid hlf
      have HLM := Lib.hid hlm
      have HLE := Lib.hid hle
      have HCY : Hid ((⟨what, n, e, loc, c, r, ma, mc, ea, ec⟩ : As).cells.toArray = #[.int .i64 what, .int .i64 n, .int .i64 e.seq, .int .i64 e.client, .int .i64 e.num, .int .i64 e.op, .string (strB e.key), .int .i64 e.size, .int .u32 (e.sum : Int), .slice loc lf c, .int .i64 r.kind, .int .i64 r.epoch, .slice ma lm mc, .int .i64 r.pos, .int .i64 r.last, .slice ea le ec]) := by show _ = _; rw [← hlf, ← hlm, ← hle]; rfl
      unfold As.cells at hc
      dsimp only at hc
      rw [hlf, hlm, hle] at hc
      have HC := Lib.hid hc
      clear hc hlf hlm hle hlt
      go_upto_region 12 with (first | (refine wpList_ldX 43 16 _ _ _ #[.int .i64 what, .int .i64 n, .int .i64 e.seq, .int .i64 e.client, .int .i64 e.num, .int .i64 e.op, .string (strB e.key), .int .i64 e.size, .int .u32 (e.sum : Int), .slice loc lf c, .int .i64 r.kind, .int .i64 r.epoch, .slice ma lm mc, .int .i64 r.pos, .int .i64 r.last, .slice ea le ec] rfl rfl rfl (by kernel_rfl) (by kernel_rfl) rfl (fun j v hv => HC.out j v (by rw [← Array.getElem?_toList] at hv; exact hv)) ?_) | (refine wpList_st 43 16 wr.heap.size 0 43 #[.int .i64 what, .int .i64 n, .int .i64 e.seq, .int .i64 e.client, .int .i64 e.num, .int .i64 e.op, .string (strB e.key), .int .i64 e.size, .int .u32 (e.sum : Int), .slice loc lf c, .int .i64 r.kind, .int .i64 r.epoch, .slice ma lm mc, .int .i64 r.pos, .int .i64 r.last, .slice ea le ec] #[.int .i64 0, .int .i64 0, .int .i64 0, .int .i64 0, .int .i64 0, .int .i64 0, .string ⟨#[]⟩, .int .i64 0, .int .u32 0, .slice none 0 0, .int .i64 0, .int .i64 0, .slice none 0 0, .int .i64 0, .int .i64 0, .slice none 0 0] #[.int .i64 what, .int .i64 n, .int .i64 e.seq, .int .i64 e.client, .int .i64 e.num, .int .i64 e.op, .string (strB e.key), .int .i64 e.size, .int .u32 (e.sum : Int), .slice loc lf c, .int .i64 r.kind, .int .i64 r.epoch, .slice ma lm mc, .int .i64 r.pos, .int .i64 r.last, .slice ea le ec] _ _ rfl rfl rfl rfl rfl (by kernel_rfl) rfl (bx_new8 wr #[.int .i64 0, .int .i64 0, .int .i64 0, .int .i64 0, .int .i64 0, .int .i64 0, .string ⟨#[]⟩, .int .i64 0, .int .u32 0, .slice none 0 0, .int .i64 0, .int .i64 0, .slice none 0 0, .int .i64 0, .int .i64 0, .slice none 0 0] 43) (by show 16 ≤ 16; omega) (by simp [Value.oneCell']) rfl ?_; intro wx hx hcx; have hbx : Below wr.heap.size wr wx := hcx.below (below_one wr _) (by simp) (by simp); have HBX := Lib.hid hx; have E := Lib.hid (Ext.trans HB.out hbx); have HS' := Lib.hid (HS.out.below hbx); have HMO' := Lib.hid (HMO.out.below hbx); have HMW' := Lib.hid (HMW.out.below hbx); clear hx hcx hbx HS HB HC HMO HMW; have HS := HS'; have HMO := HMO'; have HMW := HMW'; clear HS' HMO' HMW'))
      have c0 := HBX.out.cell 0 (.int .i64 what) rfl
      have c12 := HBX.out.cell 12 (.slice ma lm mc) rfl
      have c15 := HBX.out.cell 15 (.slice ea le ec) rfl
      by_cases h1 : 6 < le
      · have d1 : decide ((le : Int) > 6) = true := decide_eq_true (by omega)
        clear h1
        go_wp2_with fail
        go_roundw
        case rel => exact ⟨k + 1, M, d, rs, m, W, dn, tn, SB, B, BW, by omega, by omega, by omega, rfl, rfl, rfl, rfl, rfl, by go_num, HS, HMO, HMW, (Lib.hid HP.out.next), E⟩
        case measure => simp [intOf]; omega
      · have d1 : decide ((le : Int) > 6) = false := decide_eq_false (by omega)
        by_cases h2 : 40 < lm
        · have d2 : decide ((lm : Int) > 40) = true := decide_eq_true (by omega)
          clear h1 h2
          go_wp2_with fail
          go_roundw
          case rel => exact ⟨k + 1, M, d, rs, m, W, dn, tn, SB, B, BW, by omega, by omega, by omega, rfl, rfl, rfl, rfl, rfl, by go_num, HS, HMO, HMW, (Lib.hid HP.out.next), E⟩
          case measure => simp [intOf]; omega
        · have d2 : decide ((lm : Int) > 40) = false := decide_eq_false (by omega)
          have H6 : Hid (r.ents.length ≤ 6) := by show _ ≤ _; rw [HLE.out]; omega
          have h6 : le ≤ 6 := by omega
          clear h1 h2
          by_cases h3 : 0 ≤ what
          · have g1 : decide (what ≥ 0) = true := decide_eq_true h3
            by_cases h4 : what ≤ 4
            · have g2 : decide (what ≤ 4) = true := decide_eq_true h4
              clear h3 h4
              have HAT := Lib.hid (HX0.out.at_ _ HMEM.out)
              obtain ⟨xs, hxs, hEn⟩ := ena_of HAT.out.rc.ents
              have HRK : Hid (Rk M wx ⟨ma, mc, ea, ec, xs⟩ r) := ⟨hxs, kp_old (fun _ hb => ⟨HAT.out.rc.mem.below hb, hEn.below hb⟩) E.out (fun g hg => (HS.out.mLt hg).1), HAT.out.rc.wf⟩
              have HSE : Hid (Kp M wx fun x => SeenAt x loc c e.frag) := kp_old (fun _ hb => HAT.out.seen.below hb) E.out (fun g hg => (HS.out.mLt hg).1)
              clear hxs hEn
              go_wp2_with (refine wpList_ldX 43 16 _ _ _ #[.int .i64 what, .int .i64 n, .int .i64 e.seq, .int .i64 e.client, .int .i64 e.num, .int .i64 e.op, .string (strB e.key), .int .i64 e.size, .int .u32 (e.sum : Int), .slice loc lf c, .int .i64 r.kind, .int .i64 r.epoch, .slice ma lm mc, .int .i64 r.pos, .int .i64 r.last, .slice ea le ec] rfl rfl rfl (by kernel_rfl) (by kernel_rfl) rfl (fun j v hv => (by rw [Nat.zero_add]; exact HBX.out.cell j v hv)) ?_)
              refine (deed_any what n (yl := ⟨ma, mc, ea, ec, xs⟩) ⟨HMO.out, HRK.out, HSE.out, HAT.out.ewf, fun g hg => (HS.out.mLt hg).2, by have := HS.out.len; omega, lastS_range HS.out.ok, HLF.out, HLM.out, HLE.out⟩).mono ?_
              intro x w2 hw
              obtain ⟨yd, rfl, hrk, hb⟩ := hw
              obtain ⟨⟨p, rep, want, wri⟩, hD⟩ : ∃ D, deedS m what n e r = D := ⟨_, rfl⟩
              rw [hD] at hrk ⊢
              dsimp only at hrk ⊢
              have HD := Lib.hid hD
              obtain ⟨lpm, hlpm⟩ : ∃ q, p.mem.length = q := ⟨_, rfl⟩
              obtain ⟨lpe, hlpe⟩ : ∃ q, p.ents.length = q := ⟨_, rfl⟩
              rw [hlpm, hlpe]
              have HLPM := Lib.hid hlpm
              have HLPE := Lib.hid hlpe
              have HPE : Hid (lpe ≤ 10000) := by show _ ≤ _; rw [← hlpe]; exact deed_len HS.out.ok (by rw [HLE.out]; omega) HD.out
              have HRKP := Lib.hid hrk
              clear hrk hD hlpm hlpe HRK HSE
              have HS' := Lib.hid (HS.out.below hb)
              have HMO' := Lib.hid (HMO.out.below hb)
              have HMW' := Lib.hid (HMW.out.below hb)
              have HBX' := Lib.hid (HBX.out.chg (gs := []) (Chg.of_below hb) (by simp))
              have E' := Lib.hid (Ext.trans E.out hb)
              clear HS HMO HMW HBX E
              have HS := HS'
              clear HS'
              have HMO := HMO'
              clear HMO'
              have HMW := HMW'
              clear HMW'
              have HBX := HBX'
              clear HBX'
              have E := E'
              clear E'
              clear hb
              have hbl := below_one w2 (.cells #[.int .i64 p.kind, .int .i64 p.epoch, .slice yd.ma lpm yd.mc, .int .i64 p.pos, .int .i64 p.last, .slice yd.ea lpe yd.ec] 35)
              have HPB : Hid (Bx (w2.alloc (.cells #[.int .i64 p.kind, .int .i64 p.epoch, .slice yd.ma lpm yd.mc, .int .i64 p.pos, .int .i64 p.last, .slice yd.ea lpe yd.ec] 35)) w2.heap.size 35 #[.int .i64 p.kind, .int .i64 p.epoch, .slice yd.ma lpm yd.mc, .int .i64 p.pos, .int .i64 p.last, .slice yd.ea lpe yd.ec]) := bx_new8 _ _ _
              have HBPN : Hid (w2.heap.size ∉ M) := fun e => Nat.lt_irrefl _ (HS.out.mLt e).2
              have HS' := Lib.hid (HS.out.below hbl)
              have HMO' := Lib.hid (HMO.out.below hbl)
              have HMW' := Lib.hid (HMW.out.below hbl)
              have HRKP' := Lib.hid (HRKP.out.below hbl)
              have HBX' := Lib.hid (HBX.out.chg (gs := []) (Chg.of_below hbl) (by simp))
              have E' := Lib.hid (Ext.trans E.out hbl)
              clear HS HMO HMW HRKP HBX E
              have HS := HS'
              clear HS'
              have HMO := HMO'
              clear HMO'
              have HMW := HMW'
              clear HMW'
              have HRKP := HRKP'
              clear HRKP'
              have HBX := HBX'
              clear HBX'
              have E := E'
              clear E'
              clear hbl
              go_wp2_with fail
              generalize hBP : w2.heap.size = BP at *
              clear hBP
              generalize (w2.alloc (.cells #[.int .i64 p.kind, .int .i64 p.epoch, .slice yd.ma lpm yd.mc, .int .i64 p.pos, .int .i64 p.last, .slice yd.ea lpe yd.ec] 35)) = w3 at *
              refine (refCopy_any HMO.out (fun g hg => (HS.out.mLt hg).2)).mono ?_
              rintro x w4 ⟨NB, rfl, hnb, hb4, hnx⟩
              have HNX := Lib.hid hnx
              have HB4 := Lib.hid hb4
              have HNB := Lib.hid hnb
              have HPB4 := Lib.hid (HPB.out.chg (gs := []) (Chg.of_below hb4) (by simp))
              have HRK4 : Hid (Rk (NB :: M) w4 yd p) := HRKP.out.mv ⟨Chg.mono (Chg.of_below hb4) (fun g hg => absurd hg List.not_mem_nil), fun g hg => by
                rcases List.mem_cons.mp hg with e | e
                · exact .inr (by rw [e]; exact hnb)
                · exact .inl e⟩
              have q0 := HPB4.out.cell 0 (.int .i64 p.kind) rfl
              have q1 := HPB4.out.cell 1 (.int .i64 p.epoch) rfl
              have q2 := HPB4.out.cell 2 (.slice yd.ma lpm yd.mc) rfl
              have q3 := HPB4.out.cell 3 (.int .i64 p.pos) rfl
              have q4 := HPB4.out.cell 4 (.int .i64 p.last) rfl
              have q5 := HPB4.out.cell 5 (.slice yd.ea lpe yd.ec) rfl
              clear hnb hb4 hnx
              go_wp2_with fail
              refine (refApply_any HNX.out HRK4.out HLPM.out HLPE.out rfl (by have := HS.out.len; omega) HPE.out (fun g hg => Nat.lt_of_lt_of_le (HS.out.mLt hg).2 HB4.out.size)).mono ?_
              intro x w5 hw
              obtain ⟨rfl, hnx5, hc5⟩ := hw
              have hb5 : Below w3.heap.size w3 w5 := hc5.below HB4.out HB4.out.size (fun g hg => by rw [List.mem_singleton.mp hg]; exact HNB.out)
              have HMN := Lib.hid hnx5.mo
              clear q0 q1 q2 q3 q4 q5 HNX HRK4 HPB4 HB4 HNB hnx5 hc5
              have HS' := Lib.hid (HS.out.below hb5)
              have HMO' := Lib.hid (HMO.out.below hb5)
              have HMW' := Lib.hid (HMW.out.below hb5)
              have HRKP' := Lib.hid (HRKP.out.below hb5)
              have HBX' := Lib.hid (HBX.out.chg (gs := []) (Chg.of_below hb5) (by simp))
              have HPB' := Lib.hid (HPB.out.chg (gs := []) (Chg.of_below hb5) (by simp))
              have E' := Lib.hid (Ext.trans E.out hb5)
              clear HS HMO HMW HRKP HBX HPB E
              have HS := HS'
              clear HS'
              have HMO := HMO'
              clear HMO'
              have HMW := HMW'
              clear HMW'
              have HRKP := HRKP'
              clear HRKP'
              have HBX := HBX'
              clear HBX'
              have HPB := HPB'
              clear HPB'
              have E := E'
              clear E'
              clear hb5
              go_wp2_with (refine wpList_ldX 43 16 _ _ _ #[.int .i64 what, .int .i64 n, .int .i64 e.seq, .int .i64 e.client, .int .i64 e.num, .int .i64 e.op, .string (strB e.key), .int .i64 e.size, .int .u32 (e.sum : Int), .slice loc lf c, .int .i64 r.kind, .int .i64 r.epoch, .slice ma lm mc, .int .i64 r.pos, .int .i64 r.last, .slice ea le ec] rfl rfl rfl (by kernel_rfl) (by kernel_rfl) rfl (fun j v hv => (by rw [Nat.zero_add]; exact HBX.out.cell j v hv)) ?_)
              rw [← HCY.out]
              refine (lawCall_any (⟨what, n, e, loc, c, r, ma, mc, ea, ec⟩ : As) HS.out (by omega) (HX0.out.kp HMEM.out E.out fun g hg => (HS.out.mLt hg).1) H6.out).mono ?_
              intro x w6 hw
              obtain ⟨rfl, M6, hs6, hm6⟩ := hw
              have HRUN := Lib.hid HS.out.1
              have HGRS := Lib.hid HS.out.2.1
              have HOK := Lib.hid HS.out.ok
              have HDO : Hid (doA d rs m (⟨what, n, e, loc, c, r, ma, mc, ea, ec⟩ : As) = act d rs (if want = 0 then (if wri = true then none else some 0) else some want) p rep) := by
                have h := doA_deed d rs m (⟨what, n, e, loc, c, r, ma, mc, ea, ec⟩ : As)
                dsimp only at h
                rw [HD.out] at h
                exact h
              have E' : Hid (Ext w w6) := (hm6.below E.out fun g hg => (HS.out.mLt hg).1).1
              have HS6 : Hid (So w6 w.heap.size SB R M6 (doA d rs m (⟨what, n, e, loc, c, r, ma, mc, ea, ec⟩ : As)).1.2 (doA d rs m (⟨what, n, e, loc, c, r, ma, mc, ea, ec⟩ : As)).2 (runS (doA d rs m (⟨what, n, e, loc, c, r, ma, mc, ea, ec⟩ : As)).2)) := hs6
              have HMO' := Lib.hid (HMO.out.mv hm6)
              have HMW' := Lib.hid (HMW.out.mv hm6)
              have HMN' := Lib.hid (HMN.out.mv hm6)
              have HPB' := Lib.hid (HPB.out.chg hm6.chg HBPN.out)
              have HRP := Lib.hid (HRKP.out.mv hm6).at_.now
              clear hs6 hm6 E HS HMO HMW HMN HPB HRKP HBX
              have E := E'
              have HMO := HMO'
              have HMW := HMW'
              have HMN := HMN'
              have HPB := HPB'
              clear E' HMO' HMW' HMN' HPB'
              by_cases hw0 : want = 0
              · subst hw0
                cases wri
                · have hact : doA d rs m (⟨what, n, e, loc, c, r, ma, mc, ea, ec⟩ : As) = ((0, d), rs) := HDO.out
                  rw [hact] at HS6 ⊢
                  dsimp only at HS6 ⊢
                  rw [HRUN.out] at HS6
                  have HS := HS6
                  clear HS6 hact
                  clear HMN HPB HRP
                  obtain ⟨bp, L, ht⟩ := HS.out.tel
                  have HFT := Lib.hid (HS.out.fit (by omega))
                  go_wp2_with fail
                  refine (shown_any (t := m) ht HMO.out HFT.out HFT.out true (.inl ⟨rfl, rfl⟩)).mono ?_
                  rintro x w9 ⟨rfl, hb9⟩
                  clear ht
                  have HS' := Lib.hid (HS.out.below hb9)
                  have HMO' := Lib.hid (HMO.out.below hb9)
                  have HMW' := Lib.hid (HMW.out.below hb9)
                  have E' := Lib.hid (Ext.trans E.out hb9)
                  clear HS HMO HMW E
                  have HS := HS'
                  clear HS'
                  have HMO := HMO'
                  clear HMO'
                  have HMW := HMW'
                  clear HMW'
                  have E := E'
                  clear E'
                  clear hb9
                  go_wp2_with fail
                  go_roundw
                  case rel => exact ⟨k + 1, M6, d, rs, m, W, dn, tn, SB, B, BW, by omega, by omega, by omega, rfl, rfl, rfl, rfl, rfl, by go_num, HS, HMO, HMW, (Lib.hid HP.out.next), E⟩
                  case measure => simp [intOf]; omega
                · cases hsn : sndR p
                  · have hact : doA d rs m (⟨what, n, e, loc, c, r, ma, mc, ea, ec⟩ : As) = ((2, d), rs) := by
                      rw [HDO.out]
                      show (wq d p rep, nxt rs p rep (wq d p rep).1) = _
                      rw [wq_no _ _ _ hsn, nxt_no _ _ _ _ (show (2 : Int) ≠ 0 by decide)]
                    rw [hact] at HS6 ⊢
                    dsimp only at HS6 ⊢
                    rw [HRUN.out] at HS6
                    have HS := HS6
                    clear HS6 hact
                    have q0 := HPB.out.cell 0 (.int .i64 p.kind) rfl
                    have q1 := HPB.out.cell 1 (.int .i64 p.epoch) rfl
                    have q2 := HPB.out.cell 2 (.slice yd.ma lpm yd.mc) rfl
                    have q3 := HPB.out.cell 3 (.int .i64 p.pos) rfl
                    have q4 := HPB.out.cell 4 (.int .i64 p.last) rfl
                    have q5 := HPB.out.cell 5 (.slice yd.ea lpe yd.ec) rfl
                    go_wp2_with fail
                    refine (refRec_any _ _ _ _ _ _ p _ HRP.out HLPM.out HLPE.out).mono ?_
                    rintro x w7 ⟨rfl, hb7⟩
                    clear q0 q1 q2 q3 q4 q5 HRP HPB
                    have HS' := Lib.hid (HS.out.below hb7)
                    have HMO' := Lib.hid (HMO.out.below hb7)
                    have HMW' := Lib.hid (HMW.out.below hb7)
                    have HMN' := Lib.hid (HMN.out.below hb7)
                    have E' := Lib.hid (Ext.trans E.out hb7)
                    clear HS HMO HMW HMN E
                    have HS := HS'
                    clear HS'
                    have HMO := HMO'
                    clear HMO'
                    have HMW := HMW'
                    clear HMW'
                    have HMN := HMN'
                    clear HMN'
                    have E := E'
                    clear E'
                    clear hb7
                    rw [hsn]
                    clear HMN
                    obtain ⟨bp, L, ht⟩ := HS.out.tel
                    have HFT := Lib.hid (HS.out.fit (by omega))
                    go_wp2_with fail
                    refine (shown_any (t := m) ht HMO.out HFT.out HFT.out true (.inl ⟨rfl, rfl⟩)).mono ?_
                    rintro x w9 ⟨rfl, hb9⟩
                    clear ht
                    have HS' := Lib.hid (HS.out.below hb9)
                    have HMO' := Lib.hid (HMO.out.below hb9)
                    have HMW' := Lib.hid (HMW.out.below hb9)
                    have E' := Lib.hid (Ext.trans E.out hb9)
                    clear HS HMO HMW E
                    have HS := HS'
                    clear HS'
                    have HMO := HMO'
                    clear HMO'
                    have HMW := HMW'
                    clear HMW'
                    have E := E'
                    clear E'
                    clear hb9
                    go_wp2_with fail
                    go_roundw
                    case rel => exact ⟨k + 1, M6, d, rs, m, W, dn, tn, SB, B, BW, by omega, by omega, by omega, rfl, rfl, rfl, rfl, rfl, by go_num, HS, HMO, HMW, (Lib.hid HP.out.next), E⟩
                    case measure => simp [intOf]; omega
                  · obtain ⟨hgp, hdf, hk4⟩ := deed_good HOK.out HAT.out.ewf HAT.out.rc.wf (by rw [HLE.out]; omega) HD.out hsn
                    have HGP := Lib.hid hgp
                    have HDF := Lib.hid hdf
                    have HK4 := Lib.hid hk4
                    clear hgp hdf hk4
                    cases dn
                    · cases tn
                      · obtain ⟨hq, hph⟩ := HP.out.done (rep := rep) HGRS.out HGP.out (by omega)
                        have hact : doA d rs m (⟨what, n, e, loc, c, r, ma, mc, ea, ec⟩ : As) = ((0, (wq d p rep).2), put rs p rep) := by
                          rw [HDO.out]
                          show (wq d p rep, nxt rs p rep (wq d p rep).1) = _
                          unfold nxt put
                          rw [if_pos hq]
                          exact Prod.ext (Prod.ext hq rfl) rfl
                        rw [hact] at HS6 ⊢
                        dsimp only at HS6 ⊢
                        rw [put_run HRUN.out HK4.out] at HS6
                        have HS := HS6
                        have HPN := Lib.hid hph
                        have hpl := put_len rs p rep
                        clear HS6 hact hq hph
                        generalize (wq d p rep).2 = d6 at *
                        generalize put rs p rep = rs6 at *
                        have q0 := HPB.out.cell 0 (.int .i64 p.kind) rfl
                        have q1 := HPB.out.cell 1 (.int .i64 p.epoch) rfl
                        have q2 := HPB.out.cell 2 (.slice yd.ma lpm yd.mc) rfl
                        have q3 := HPB.out.cell 3 (.int .i64 p.pos) rfl
                        have q4 := HPB.out.cell 4 (.int .i64 p.last) rfl
                        have q5 := HPB.out.cell 5 (.slice yd.ea lpe yd.ec) rfl
                        go_wp2_with fail
                        refine (refRec_any _ _ _ _ _ _ p _ HRP.out HLPM.out HLPE.out).mono ?_
                        rintro x w7 ⟨rfl, hb7⟩
                        clear q0 q1 q2 q3 q4 q5 HRP HPB
                        have HS' := Lib.hid (HS.out.below hb7)
                        have HMO' := Lib.hid (HMO.out.below hb7)
                        have HMW' := Lib.hid (HMW.out.below hb7)
                        have HMN' := Lib.hid (HMN.out.below hb7)
                        have E' := Lib.hid (Ext.trans E.out hb7)
                        clear HS HMO HMW HMN E
                        have HS := HS'
                        clear HS'
                        have HMO := HMO'
                        clear HMO'
                        have HMW := HMW'
                        clear HMW'
                        have HMN := HMN'
                        clear HMN'
                        have E := E'
                        clear E'
                        clear hb7
                        rw [hsn]
                        have HMO1 := HMN
                        clear HMO HMW
                        have HMO := HMO1
                        have HMW := HMO1
                        clear HMO1
                        clear HMN
                        obtain ⟨bp, L, ht⟩ := HS.out.tel
                        have HFT := Lib.hid (HS.out.fit (by omega))
                        go_wp2_with fail
                        refine (shown_any (t := (appS m p)) ht HMO.out HFT.out HFT.out true (.inl ⟨rfl, rfl⟩)).mono ?_
                        rintro x w9 ⟨rfl, hb9⟩
                        clear ht
                        have HS' := Lib.hid (HS.out.below hb9)
                        have HMO' := Lib.hid (HMO.out.below hb9)
                        have HMW' := Lib.hid (HMW.out.below hb9)
                        have E' := Lib.hid (Ext.trans E.out hb9)
                        clear HS HMO HMW E
                        have HS := HS'
                        clear HS'
                        have HMO := HMO'
                        clear HMO'
                        have HMW := HMW'
                        clear HMW'
                        have E := E'
                        clear E'
                        clear hb9
                        go_wp2_with fail
                        go_roundw
                        case rel => exact ⟨k + 1, M6, d6, rs6, appS m p, appS m p, false, false, SB, NB, NB, by omega, by omega, by omega, rfl, rfl, rfl, rfl, rfl, by go_num, HS, HMO, HMW, HPN, E⟩
                        case measure => simp [intOf]; omega
                      · obtain ⟨hq, hph⟩ := HP.out.tears (rep := rep) HRUN.out HGRS.out HGP.out hrs (by omega) HK4.out HDF.out
                        have hact : doA d rs m (⟨what, n, e, loc, c, r, ma, mc, ea, ec⟩ : As) = ((6, (wq d p rep).2), rs) := by
                          rw [HDO.out]
                          show (wq d p rep, nxt rs p rep (wq d p rep).1) = _
                          rw [nxt_no _ _ _ _ (by rw [hq]; decide)]
                          exact Prod.ext (Prod.ext hq rfl) rfl
                        rw [hact] at HS6 ⊢
                        dsimp only at HS6 ⊢
                        rw [HRUN.out] at HS6
                        have HS := HS6
                        have HPN := Lib.hid hph
                        clear HS6 hact hq hph
                        generalize (wq d p rep).2 = d6 at *
                        have q0 := HPB.out.cell 0 (.int .i64 p.kind) rfl
                        have q1 := HPB.out.cell 1 (.int .i64 p.epoch) rfl
                        have q2 := HPB.out.cell 2 (.slice yd.ma lpm yd.mc) rfl
                        have q3 := HPB.out.cell 3 (.int .i64 p.pos) rfl
                        have q4 := HPB.out.cell 4 (.int .i64 p.last) rfl
                        have q5 := HPB.out.cell 5 (.slice yd.ea lpe yd.ec) rfl
                        go_wp2_with fail
                        refine (refRec_any _ _ _ _ _ _ p _ HRP.out HLPM.out HLPE.out).mono ?_
                        rintro x w7 ⟨rfl, hb7⟩
                        clear q0 q1 q2 q3 q4 q5 HRP HPB
                        have HS' := Lib.hid (HS.out.below hb7)
                        have HMO' := Lib.hid (HMO.out.below hb7)
                        have HMW' := Lib.hid (HMW.out.below hb7)
                        have HMN' := Lib.hid (HMN.out.below hb7)
                        have E' := Lib.hid (Ext.trans E.out hb7)
                        clear HS HMO HMW HMN E
                        have HS := HS'
                        clear HS'
                        have HMO := HMO'
                        clear HMO'
                        have HMW := HMW'
                        clear HMW'
                        have HMN := HMN'
                        clear HMN'
                        have E := E'
                        clear E'
                        clear hb7
                        rw [hsn]
                        have HMW1 := HMN
                        clear HMW
                        have HMW := HMW1
                        clear HMW1
                        clear HMN
                        obtain ⟨bp, L, ht⟩ := HS.out.tel
                        have HFT := Lib.hid (HS.out.fit (by omega))
                        go_wp2_with fail
                        refine (shown_any (t := m) ht HMO.out HFT.out HFT.out true (.inl ⟨rfl, rfl⟩)).mono ?_
                        rintro x w9 ⟨rfl, hb9⟩
                        clear ht
                        have HS' := Lib.hid (HS.out.below hb9)
                        have HMO' := Lib.hid (HMO.out.below hb9)
                        have HMW' := Lib.hid (HMW.out.below hb9)
                        have E' := Lib.hid (Ext.trans E.out hb9)
                        clear HS HMO HMW E
                        have HS := HS'
                        clear HS'
                        have HMO := HMO'
                        clear HMO'
                        have HMW := HMW'
                        clear HMW'
                        have E := E'
                        clear E'
                        clear hb9
                        go_wp2_with fail
                        go_roundw
                        case rel => exact ⟨k + 1, M6, d6, rs, m, appS m p, true, false, SB, B, NB, by omega, by omega, by omega, rfl, rfl, rfl, rfl, rfl, by go_num, HS, HMO, HMW, HPN, E⟩
                        case measure => simp [intOf]; omega
                    · have hwq := HP.out.off (rep := rep) hsn
                      have hact : doA d rs m (⟨what, n, e, loc, c, r, ma, mc, ea, ec⟩ : As) = ((6, d), rs) := by
                        rw [HDO.out]
                        show (wq d p rep, nxt rs p rep (wq d p rep).1) = _
                        rw [hwq, nxt_no _ _ _ _ (show (6 : Int) ≠ 0 by decide)]
                      rw [hact] at HS6 ⊢
                      dsimp only at HS6 ⊢
                      rw [HRUN.out] at HS6
                      have HS := HS6
                      clear HS6 hact hwq
                      have q0 := HPB.out.cell 0 (.int .i64 p.kind) rfl
                      have q1 := HPB.out.cell 1 (.int .i64 p.epoch) rfl
                      have q2 := HPB.out.cell 2 (.slice yd.ma lpm yd.mc) rfl
                      have q3 := HPB.out.cell 3 (.int .i64 p.pos) rfl
                      have q4 := HPB.out.cell 4 (.int .i64 p.last) rfl
                      have q5 := HPB.out.cell 5 (.slice yd.ea lpe yd.ec) rfl
                      go_wp2_with fail
                      refine (refRec_any _ _ _ _ _ _ p _ HRP.out HLPM.out HLPE.out).mono ?_
                      rintro x w7 ⟨rfl, hb7⟩
                      clear q0 q1 q2 q3 q4 q5 HRP HPB
                      have HS' := Lib.hid (HS.out.below hb7)
                      have HMO' := Lib.hid (HMO.out.below hb7)
                      have HMW' := Lib.hid (HMW.out.below hb7)
                      have HMN' := Lib.hid (HMN.out.below hb7)
                      have E' := Lib.hid (Ext.trans E.out hb7)
                      clear HS HMO HMW HMN E
                      have HS := HS'
                      clear HS'
                      have HMO := HMO'
                      clear HMO'
                      have HMW := HMW'
                      clear HMW'
                      have HMN := HMN'
                      clear HMN'
                      have E := E'
                      clear E'
                      clear hb7
                      rw [hsn]
                      clear HMN
                      obtain ⟨bp, L, ht⟩ := HS.out.tel
                      have HFT := Lib.hid (HS.out.fit (by omega))
                      go_wp2_with fail
                      refine (shown_any (t := m) ht HMO.out HFT.out HFT.out true (.inl ⟨rfl, rfl⟩)).mono ?_
                      rintro x w9 ⟨rfl, hb9⟩
                      clear ht
                      have HS' := Lib.hid (HS.out.below hb9)
                      have HMO' := Lib.hid (HMO.out.below hb9)
                      have HMW' := Lib.hid (HMW.out.below hb9)
                      have E' := Lib.hid (Ext.trans E.out hb9)
                      clear HS HMO HMW E
                      have HS := HS'
                      clear HS'
                      have HMO := HMO'
                      clear HMO'
                      have HMW := HMW'
                      clear HMW'
                      have E := E'
                      clear E'
                      clear hb9
                      go_wp2_with fail
                      go_roundw
                      case rel => exact ⟨k + 1, M6, d, rs, m, W, true, tn, SB, B, BW, by omega, by omega, by omega, rfl, rfl, rfl, rfl, rfl, by go_num, HS, HMO, HMW, (Lib.hid HP.out.next), E⟩
                      case measure => simp [intOf]; omega
              · have hact : doA d rs m (⟨what, n, e, loc, c, r, ma, mc, ea, ec⟩ : As) = ((want, d), rs) := by
                  rw [HDO.out, if_neg hw0]
                  rfl
                rw [hact] at HS6 ⊢
                dsimp only at HS6 ⊢
                rw [HRUN.out] at HS6
                have HS := HS6
                have dw : (want == 0) = false := by simp [hw0]
                have dw2 : (want != want) = false := by simp
                clear HS6 hact hw0
                clear HMN HPB HRP
                obtain ⟨bp, L, ht⟩ := HS.out.tel
                have HFT := Lib.hid (HS.out.fit (by omega))
                go_wp2_with fail
                refine (shown_any (t := m) ht HMO.out HFT.out HFT.out true (.inl ⟨rfl, rfl⟩)).mono ?_
                rintro x w9 ⟨rfl, hb9⟩
                clear ht
                have HS' := Lib.hid (HS.out.below hb9)
                have HMO' := Lib.hid (HMO.out.below hb9)
                have HMW' := Lib.hid (HMW.out.below hb9)
                have E' := Lib.hid (Ext.trans E.out hb9)
                clear HS HMO HMW E
                have HS := HS'
                clear HS'
                have HMO := HMO'
                clear HMO'
                have HMW := HMW'
                clear HMW'
                have E := E'
                clear E'
                clear hb9
                go_wp2_with fail
                go_roundw
                case rel => exact ⟨k + 1, M6, d, rs, m, W, dn, tn, SB, B, BW, by omega, by omega, by omega, rfl, rfl, rfl, rfl, rfl, by go_num, HS, HMO, HMW, (Lib.hid HP.out.next), E⟩
                case measure => simp [intOf]; omega
            · have g2 : decide (what ≤ 4) = false := decide_eq_false h4
              by_cases h5 : what = 5
              · have g3 : (what == 5) = true := by simp [h5]
                clear h3 h4 h5
                have k1 := HBX.out.cell 1 (.int .i64 n) rfl
                obtain ⟨a, hd, hput, hsub⟩ := HS.out.dsk
                have HPUT := Lib.hid hput
                have HDK := Lib.hid hd
                clear hput hd hsub HBX
                go_wp2_with fail
                refine (disk_tear _ R a d n _ HDK.out).mono ?_
                rintro x w2 ⟨rfl, hd2, hg2⟩
                obtain ⟨hs2, hm2⟩ := HPUT.out _ _ hd2 hg2
                have E' : Hid (Ext w w2) := (hm2.below E.out fun g hg => (HS.out.mLt hg).1).1
                have HMO' := Lib.hid (HMO.out.mv hm2)
                have HMW' := Lib.hid (HMW.out.mv hm2)
                have HS' := Lib.hid hs2
                clear hs2 hm2 hd2 hg2 HPUT HDK E HMO HMW HS k1
                have HS := HS'
                have E := E'
                have HMO := HMO'
                have HMW := HMW'
                clear HS' E' HMO' HMW'
                have HPN := Lib.hid (HP.out.tear n.toNat)
                obtain ⟨bp, L, ht⟩ := HS.out.tel
                have HFT := Lib.hid (HS.out.fit (by omega))
                go_wp2_with fail
                refine (shown_any (t := m) ht HMO.out HFT.out HFT.out true (.inl ⟨rfl, rfl⟩)).mono ?_
                rintro x w9 ⟨rfl, hb9⟩
                clear ht
                have HS' := Lib.hid (HS.out.below hb9)
                have HMO' := Lib.hid (HMO.out.below hb9)
                have HMW' := Lib.hid (HMW.out.below hb9)
                have E' := Lib.hid (Ext.trans E.out hb9)
                clear HS HMO HMW E
                have HS := HS'
                clear HS'
                have HMO := HMO'
                clear HMO'
                have HMW := HMW'
                clear HMW'
                have E := E'
                clear E'
                clear hb9
                go_wp2_with fail
                go_roundw
                case rel => exact ⟨k + 1, M, _, rs, m, W, dn, true, SB, B, BW, by omega, by omega, by omega, rfl, rfl, rfl, rfl, rfl, by go_num, HS, HMO, HMW, HPN, E⟩
                case measure => simp [intOf]; omega
              · have g3 : (what == 5) = false := by simp [h5]
                clear h3 h4 h5
                obtain ⟨a, hd, hput, hsub⟩ := HS.out.dsk
                have HPUT := Lib.hid hput
                have HDK := Lib.hid hd
                clear hput hd hsub HBX
                have HFM := Lib.hid (HS.out.fit (by omega))
                obtain ⟨rs2, hst, hg2, hl2, hv2, hph⟩ := HP.out.start HS.out.1 HS.out.2.1 hrs
                have HST := Lib.hid hst
                have HG2 := Lib.hid hg2
                have HV2 := Lib.hid hv2
                have HPH := Lib.hid hph
                clear hst hg2 hv2 hph
                go_wp2_with fail
                refine (disk_start _ R a d _ HDK.out).mono ?_
                rintro x w2 ⟨rfl, hd2, hg2⟩
                obtain ⟨hs2, hm2⟩ := HPUT.out _ _ hd2 hg2
                have E' : Hid (Ext w w2) := (hm2.below E.out fun g hg => (HS.out.mLt hg).1).1
                have HMO' := Lib.hid (HMO.out.mv hm2)
                have HMW' := Lib.hid (HMW.out.mv hm2)
                have HS' := Lib.hid hs2
                clear hs2 hm2 hd2 hg2 HPUT HDK E HMO HMW HS
                have HS := HS'
                have E := E'
                have HMO := HMO'
                have HMW := HMW'
                clear HS' E' HMO' HMW'
                go_wp2_with fail
                refine (stOpen_ph HS.out rfl rfl HG2.out (by omega) HV2.out).mono ?_
                rintro x w3 ⟨TB, M3, rfl, hs3, hm3⟩
                have E' : Hid (Ext w w3) := (hm3.below E.out fun g hg => (HS.out.mLt hg).1).1
                have HMO' := Lib.hid (HMO.out.mv hm3)
                have HMW' := Lib.hid (HMW.out.mv hm3)
                have HS' := Lib.hid hs3
                clear hs3 hm3 E HMO HMW HS
                have HS := HS'
                have E := E'
                have HMO := HMO'
                have HMW := HMW'
                clear HS' E' HMO' HMW'
                obtain ⟨t, ht⟩ : ∃ t, runS rs2 = t := ⟨_, rfl⟩
                rw [ht] at HS HST
                clear ht
                have HPN := Lib.hid (HPH.out t)
                have HFT0 := Lib.hid (HS.out.fit (by omega))
                obtain ⟨bp0, L0, ht0⟩ := HS.out.tel
                rcases HST.out with rfl | ⟨rfl, hdif⟩
                · go_wp2_with fail
                  refine (shown_any ht0 HMO.out HFT0.out HFT0.out true (.inl ⟨rfl, rfl⟩)).mono ?_
                  rintro x w8 ⟨rfl, hb8⟩
                  clear ht0
                  have HS' := Lib.hid (HS.out.below hb8)
                  have HMO' := Lib.hid (HMO.out.below hb8)
                  have HMW' := Lib.hid (HMW.out.below hb8)
                  have E' := Lib.hid (Ext.trans E.out hb8)
                  clear HS HMO HMW E
                  have HS := HS'
                  clear HS'
                  have HMO := HMO'
                  clear HMO'
                  have HMW := HMW'
                  clear HMW'
                  have E := E'
                  clear E'
                  clear hb8
                  have HMW1 := HMO
                  clear HMW
                  have HMW := HMW1
                  clear HMW1
                  obtain ⟨bp, L, ht⟩ := HS.out.tel
                  have HFT := Lib.hid (HS.out.fit (by omega))
                  go_wp2_with fail
                  refine (shown_any (t := _) ht HMO.out HFT.out HFT.out true (.inl ⟨rfl, rfl⟩)).mono ?_
                  rintro x w9 ⟨rfl, hb9⟩
                  clear ht
                  have HS' := Lib.hid (HS.out.below hb9)
                  have HMO' := Lib.hid (HMO.out.below hb9)
                  have HMW' := Lib.hid (HMW.out.below hb9)
                  have E' := Lib.hid (Ext.trans E.out hb9)
                  clear HS HMO HMW E
                  have HS := HS'
                  clear HS'
                  have HMO := HMO'
                  clear HMO'
                  have HMW := HMW'
                  clear HMW'
                  have E := E'
                  clear E'
                  clear hb9
                  go_wp2_with fail
                  go_roundw
                  case rel => exact ⟨k + 1, M3, _, rs2, _, _, false, false, TB, B, B, by omega, by omega, by omega, rfl, rfl, rfl, rfl, rfl, by go_num, HS, HMO, HMW, HPN, E⟩
                  case measure => simp [intOf]; omega
                · go_wp2_with fail
                  refine (shown_any ht0 HMO.out HFT0.out HFM.out false (.inr ⟨rfl, hdif⟩)).mono ?_
                  rintro x w8 ⟨rfl, hb8⟩
                  clear ht0 hdif
                  have HS' := Lib.hid (HS.out.below hb8)
                  have HMO' := Lib.hid (HMO.out.below hb8)
                  have HMW' := Lib.hid (HMW.out.below hb8)
                  have E' := Lib.hid (Ext.trans E.out hb8)
                  clear HS HMO HMW E
                  have HS := HS'
                  clear HS'
                  have HMO := HMO'
                  clear HMO'
                  have HMW := HMW'
                  clear HMW'
                  have E := E'
                  clear E'
                  clear hb8
                  have HMO1 := HMW
                  clear HMO
                  have HMO := HMO1
                  clear HMO1
                  obtain ⟨bp, L, ht⟩ := HS.out.tel
                  have HFT := Lib.hid (HS.out.fit (by omega))
                  go_wp2_with fail
                  refine (shown_any (t := _) ht HMO.out HFT.out HFT.out true (.inl ⟨rfl, rfl⟩)).mono ?_
                  rintro x w9 ⟨rfl, hb9⟩
                  clear ht
                  have HS' := Lib.hid (HS.out.below hb9)
                  have HMO' := Lib.hid (HMO.out.below hb9)
                  have HMW' := Lib.hid (HMW.out.below hb9)
                  have E' := Lib.hid (Ext.trans E.out hb9)
                  clear HS HMO HMW E
                  have HS := HS'
                  clear HS'
                  have HMO := HMO'
                  clear HMO'
                  have HMW := HMW'
                  clear HMW'
                  have E := E'
                  clear E'
                  clear hb9
                  go_wp2_with fail
                  go_roundw
                  case rel => exact ⟨k + 1, M3, _, rs2, _, _, false, false, TB, BW, BW, by omega, by omega, by omega, rfl, rfl, rfl, rfl, rfl, by go_num, HS, HMO, HMW, HPN, E⟩
                  case measure => simp [intOf]; omega
          · have g1 : decide (what ≥ 0) = false := decide_eq_false h3
            have g3 : (what == 5) = false := by simp; omega
            clear h3
            obtain ⟨a, hd, hput, hsub⟩ := HS.out.dsk
            have HPUT := Lib.hid hput
            have HDK := Lib.hid hd
            clear hput hd hsub HBX
            have HFM := Lib.hid (HS.out.fit (by omega))
            obtain ⟨rs2, hst, hg2, hl2, hv2, hph⟩ := HP.out.start HS.out.1 HS.out.2.1 hrs
            have HST := Lib.hid hst
            have HG2 := Lib.hid hg2
            have HV2 := Lib.hid hv2
            have HPH := Lib.hid hph
            clear hst hg2 hv2 hph
            go_wp2_with fail
            refine (disk_start _ R a d _ HDK.out).mono ?_
            rintro x w2 ⟨rfl, hd2, hg2⟩
            obtain ⟨hs2, hm2⟩ := HPUT.out _ _ hd2 hg2
            have E' : Hid (Ext w w2) := (hm2.below E.out fun g hg => (HS.out.mLt hg).1).1
            have HMO' := Lib.hid (HMO.out.mv hm2)
            have HMW' := Lib.hid (HMW.out.mv hm2)
            have HS' := Lib.hid hs2
            clear hs2 hm2 hd2 hg2 HPUT HDK E HMO HMW HS
            have HS := HS'
            have E := E'
            have HMO := HMO'
            have HMW := HMW'
            clear HS' E' HMO' HMW'
            go_wp2_with fail
            refine (stOpen_ph HS.out rfl rfl HG2.out (by omega) HV2.out).mono ?_
            rintro x w3 ⟨TB, M3, rfl, hs3, hm3⟩
            have E' : Hid (Ext w w3) := (hm3.below E.out fun g hg => (HS.out.mLt hg).1).1
            have HMO' := Lib.hid (HMO.out.mv hm3)
            have HMW' := Lib.hid (HMW.out.mv hm3)
            have HS' := Lib.hid hs3
            clear hs3 hm3 E HMO HMW HS
            have HS := HS'
            have E := E'
            have HMO := HMO'
            have HMW := HMW'
            clear HS' E' HMO' HMW'
            obtain ⟨t, ht⟩ : ∃ t, runS rs2 = t := ⟨_, rfl⟩
            rw [ht] at HS HST
            clear ht
            have HPN := Lib.hid (HPH.out t)
            have HFT0 := Lib.hid (HS.out.fit (by omega))
            obtain ⟨bp0, L0, ht0⟩ := HS.out.tel
            rcases HST.out with rfl | ⟨rfl, hdif⟩
            · go_wp2_with fail
              refine (shown_any ht0 HMO.out HFT0.out HFT0.out true (.inl ⟨rfl, rfl⟩)).mono ?_
              rintro x w8 ⟨rfl, hb8⟩
              clear ht0
              have HS' := Lib.hid (HS.out.below hb8)
              have HMO' := Lib.hid (HMO.out.below hb8)
              have HMW' := Lib.hid (HMW.out.below hb8)
              have E' := Lib.hid (Ext.trans E.out hb8)
              clear HS HMO HMW E
              have HS := HS'
              clear HS'
              have HMO := HMO'
              clear HMO'
              have HMW := HMW'
              clear HMW'
              have E := E'
              clear E'
              clear hb8
              have HMW1 := HMO
              clear HMW
              have HMW := HMW1
              clear HMW1
              obtain ⟨bp, L, ht⟩ := HS.out.tel
              have HFT := Lib.hid (HS.out.fit (by omega))
              go_wp2_with fail
              refine (shown_any (t := _) ht HMO.out HFT.out HFT.out true (.inl ⟨rfl, rfl⟩)).mono ?_
              rintro x w9 ⟨rfl, hb9⟩
              clear ht
              have HS' := Lib.hid (HS.out.below hb9)
              have HMO' := Lib.hid (HMO.out.below hb9)
              have HMW' := Lib.hid (HMW.out.below hb9)
              have E' := Lib.hid (Ext.trans E.out hb9)
              clear HS HMO HMW E
              have HS := HS'
              clear HS'
              have HMO := HMO'
              clear HMO'
              have HMW := HMW'
              clear HMW'
              have E := E'
              clear E'
              clear hb9
              go_wp2_with fail
              go_roundw
              case rel => exact ⟨k + 1, M3, _, rs2, _, _, false, false, TB, B, B, by omega, by omega, by omega, rfl, rfl, rfl, rfl, rfl, by go_num, HS, HMO, HMW, HPN, E⟩
              case measure => simp [intOf]; omega
            · go_wp2_with fail
              refine (shown_any ht0 HMO.out HFT0.out HFM.out false (.inr ⟨rfl, hdif⟩)).mono ?_
              rintro x w8 ⟨rfl, hb8⟩
              clear ht0 hdif
              have HS' := Lib.hid (HS.out.below hb8)
              have HMO' := Lib.hid (HMO.out.below hb8)
              have HMW' := Lib.hid (HMW.out.below hb8)
              have E' := Lib.hid (Ext.trans E.out hb8)
              clear HS HMO HMW E
              have HS := HS'
              clear HS'
              have HMO := HMO'
              clear HMO'
              have HMW := HMW'
              clear HMW'
              have E := E'
              clear E'
              clear hb8
              have HMO1 := HMW
              clear HMO
              have HMO := HMO1
              clear HMO1
              obtain ⟨bp, L, ht⟩ := HS.out.tel
              have HFT := Lib.hid (HS.out.fit (by omega))
              go_wp2_with fail
              refine (shown_any (t := _) ht HMO.out HFT.out HFT.out true (.inl ⟨rfl, rfl⟩)).mono ?_
              rintro x w9 ⟨rfl, hb9⟩
              clear ht
              have HS' := Lib.hid (HS.out.below hb9)
              have HMO' := Lib.hid (HMO.out.below hb9)
              have HMW' := Lib.hid (HMW.out.below hb9)
              have E' := Lib.hid (Ext.trans E.out hb9)
              clear HS HMO HMW E
              have HS := HS'
              clear HS'
              have HMO := HMO'
              clear HMO'
              have HMW := HMW'
              clear HMW'
              have E := E'
              clear E'
              clear hb9
              go_wp2_with fail
              go_roundw
              case rel => exact ⟨k + 1, M3, _, rs2, _, _, false, false, TB, BW, BW, by omega, by omega, by omega, rfl, rfl, rfl, rfl, rfl, by go_num, HS, HMO, HMW, HPN, E⟩
              case measure => simp [intOf]; omega
    · have t : decide ((k : Int) < (len0 : Int)) = false ∧ decide (k < len0) = false ∨ decide ((k : Int) < (len0 : Int)) = true ∧ decide (k < len0) = true ∧ decide ((k : Int) < 40) = false := by simp; omega
      clear hlt
      rcases t with ⟨t1, t2⟩ | ⟨t1, t2, t3⟩
      · go_wp2_with fail
        refine (awake14 _).mono ?_
        rintro x wf ⟨rfl, hb⟩
        have EF := Lib.hid (Ext.trans HB.out hb)
        clear hb
        go_wp2
        go_ret
        exact ⟨rfl, EF.out⟩
      · go_wp2_with fail
        refine (awake14 _).mono ?_
        rintro x wf ⟨rfl, hb⟩
        have EF := Lib.hid (Ext.trans HB.out hb)
        clear hb
        go_wp2
        go_ret
        exact ⟨rfl, EF.out⟩

end Go.Proofs.YtdgpbdedaafdiaaGreat
