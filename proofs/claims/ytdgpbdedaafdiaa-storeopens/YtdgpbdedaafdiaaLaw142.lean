/-
  The walk of the law StoreOpens.
-/
import Derived.Test.YtdgpbdedaafdiaaLw14
import Derived.Test.YtdgpbdedaafdiaaWalksF2
import Derived.Deep.DeepCutAuto
namespace Go.Proofs.Ytdgpbdedaafdiaa
open Go.RowKit


set_option maxRecDepth 100000 in
set_option maxHeartbeats 8000000 in
theorem storeOpens_walk (a0 : Option Addr) (len0 cap0 : Nat) (m0 : List As) (w : World) (w0 : m0.length = len0 ∧ Acts14 w a0 cap0 m0) :
    Calls Try.prog 5 #[.slice a0 len0 cap0] w fun e w' => e = .returned (.bool true) ∧ Below w.heap.size w w' := by
  have h0 : len0 ≤ maxLen := by have := w0.1; have := w0.2.le; have := w0.2.max; omega
  unfold maxLen at h0
  have HL0 := Lib.hid w0.1
  have HX0 := Lib.hid w0.2
  clear w0
  go_enter Try.func5, Try.ntmps5
  go_wp2_with fail
  refine (disk_new 1048576 _).mono ?_
  rintro e w1 ⟨R, rfl, -, hd1, hb1⟩
  rw [show roomOf 1048576 = 1048576 by decide] at hd1
  have HD1 := Lib.hid hd1
  have E1 : Hid (Ext w w1) := hb1
  clear hd1 hb1
  go_wp2_with fail
  refine (stOpen_new HD1.out).mono ?_
  rintro e w2 ⟨SB, M2, rfl, hs2, hm2⟩
  have E2 : Hid (Ext w w2) := (hm2.below E1.out fun g hg => by rw [List.mem_singleton.mp hg]; exact HD1.out.base).1
  have HS2 := Lib.hid hs2
  have HP2 : Hid (Stp ⟨[], 1048576, false, false, 0⟩ []) := ⟨rfl, rfl, rfl⟩
  clear hs2 hm2 HD1 E1
  go_wp2
  go_loopw [6] (fun i ws => ∃ (k : Nat) (M : List Nat) (d : DS) (rs : List Pr) (s : Ss), k ≤ len0 ∧ k ≤ 30 ∧ rs.length ≤ k ∧ i = .int .i64 k ∧ Hid (So ws w.heap.size SB R M d rs s) ∧ Hid (Stp d rs) ∧ Hid (Ext w ws)) (fun i _ => len0 - (intOf i).toNat)
  case atStart => exact ⟨0, M2, _, [], ss0, Nat.zero_le _, Nat.zero_le _, Nat.le_refl _, rfl, HS2, HP2, E2⟩
  case round =>
    obtain ⟨k, M, d, rs, s, hk, hk30, hrs, rfl, HS, HP, HB⟩ := hrel
    by_cases hlt : k < len0 ∧ k < 30
    · have j0 : (0 : Int) ≤ (k : Int) := by omega
      have j1 : (k : Int) < (len0 : Int) := by omega
      have j2 : decide ((k : Int) < (len0 : Int)) = true := by simp; omega
      have j3 : decide ((k : Int) < 30) = true := by simp; omega
      have hlt1 := hlt.1
      have hlt2 := hlt.2
      obtain ⟨b, off, e0, hc⟩ := (HX0.out.below HB.out).cell k (by rw [HL0.out]; exact hlt1)
      subst e0
      have HMEM := Lib.hid (getD_mem m0 k as0 (by rw [HL0.out]; exact hlt1))
      generalize m0.getD k as0 = y at *
      obtain ⟨what, n, e, loc, c, r, ma, mc, ea, ec⟩ := y
      obtain ⟨lf, hlf⟩ : ∃ q, e.frag.length = q := ⟨_, rfl⟩
      obtain ⟨lm, hlm⟩ : ∃ q, r.mem.length = q := ⟨_, rfl⟩
      obtain ⟨le, hle⟩ : ∃ q, r.ents.length = q := ⟨_, rfl⟩
      have HLE := Lib.hid hle
      have HCY : Hid ((⟨what, n, e, loc, c, r, ma, mc, ea, ec⟩ : As).cells.toArray = #[.int .i64 what, .int .i64 n, .int .i64 e.seq, .int .i64 e.client, .int .i64 e.num, .int .i64 e.op, .string (strB e.key), .int .i64 e.size, .int .u32 (e.sum : Int), .slice loc lf c, .int .i64 r.kind, .int .i64 r.epoch, .slice ma lm mc, .int .i64 r.pos, .int .i64 r.last, .slice ea le ec]) := by show _ = _; rw [← hlf, ← hlm, ← hle]; rfl
      unfold As.cells at hc
      dsimp only at hc
      rw [hlf, hlm, hle] at hc
      have c0 : wr.cell? ⟨b, off + k * 16, none⟩ = some (.int .i64 what) := hc 0 _ rfl
      have c15 : wr.cell? ⟨b, off + k * 16 + 15, none⟩ = some (.slice ea le ec) := hc 15 _ rfl
      have c15' : wr.cell? ⟨b, off + k * 16 + 10 + 5, none⟩ = some (.slice ea le ec) := hc 15 _ rfl
      have HC := Lib.hid hc
      clear hc hlf hlm hle hlt
      by_cases h1 : what < 0
      · have d1 : decide (what < 0) = true := decide_eq_true h1
        go_wp2_with fail
        go_roundw
        case rel => exact ⟨k + 1, M, d, rs, s, by omega, by omega, by omega, by go_num, HS, HP, HB⟩
        case measure => simp [intOf]; omega
      · have d1 : decide (what < 0) = false := decide_eq_false h1
        by_cases h2 : 4 < what
        · have d2 : decide (what > 4) = true := decide_eq_true h2
          clear h1 h2
          go_wp2_with fail
          go_roundw
          case rel => exact ⟨k + 1, M, d, rs, s, by omega, by omega, by omega, by go_num, HS, HP, HB⟩
          case measure => simp [intOf]; omega
        · have d2 : decide (what > 4) = false := decide_eq_false h2
          by_cases h3 : 6 < le
          · have d3 : decide ((le : Int) > 6) = true := decide_eq_true (by omega)
            clear h1 h2 h3
            go_wp2_with fail
            go_roundw
            case rel => exact ⟨k + 1, M, d, rs, s, by omega, by omega, by omega, by go_num, HS, HP, HB⟩
            case measure => simp [intOf]; omega
          · have d3 : decide ((le : Int) > 6) = false := decide_eq_false (by omega)
            have H6 : Hid (r.ents.length ≤ 6) := by show _ ≤ _; rw [HLE.out]; omega
            clear h1 h2 h3
            go_wp2_with (refine wpList_ldX 40 16 _ _ _ #[.int .i64 what, .int .i64 n, .int .i64 e.seq, .int .i64 e.client, .int .i64 e.num, .int .i64 e.op, .string (strB e.key), .int .i64 e.size, .int .u32 (e.sum : Int), .slice loc lf c, .int .i64 r.kind, .int .i64 r.epoch, .slice ma lm mc, .int .i64 r.pos, .int .i64 r.last, .slice ea le ec] rfl rfl rfl (by kernel_rfl) (by kernel_rfl) rfl (fun j v hv => HC.out j v (by rw [← Array.getElem?_toList] at hv; exact hv)) ?_)
            rw [← HCY.out]
            refine (lawCall_any ⟨what, n, e, loc, c, r, ma, mc, ea, ec⟩ HS.out (by omega) (HX0.out.kp HMEM.out HB.out fun g hg => (HS.out.mLt hg).1) H6.out).mono ?_
            intro x w3 hw
            obtain ⟨rfl, he3, M3, hs3, hp3, hl3⟩ := RetMu.step HB.out HS.out HP.out hw
            have HB3 := Lib.hid he3
            have HS3 := Lib.hid hs3
            have HP3 := Lib.hid hp3
            clear hw he3 hs3 hp3 HS HP HB
            generalize doA d rs s ⟨what, n, e, loc, c, r, ma, mc, ea, ec⟩ = p at *
            obtain ⟨⟨z, d3⟩, rs3⟩ := p
            dsimp only at hl3 HS3 HP3
            go_wp2_with fail
            go_roundw
            case rel => exact ⟨k + 1, M3, d3, rs3, runS rs3, by omega, by omega, by omega, by go_num, HS3, HP3, HB3⟩
            case measure => simp [intOf]; omega
    · have t : decide ((k : Int) < (len0 : Int)) = false ∧ decide (k < len0) = false ∨ decide ((k : Int) < (len0 : Int)) = true ∧ decide (k < len0) = true ∧ decide ((k : Int) < 30) = false := by simp; omega
      clear hlt
      rcases t with ⟨t1, t2⟩ | ⟨t1, t2, t3⟩
      · skip
        go_wp2_with fail
        refine (stOpen_again HS.out HP.out (by omega)).mono ?_
        rintro x w2 ⟨TB, M2, rfl, hs2, hm2, bp, L, ht⟩
        have E : Hid (Ext w w2) := (hm2.below HB.out fun g hg => (HS.out.mLt hg).1).1
        obtain ⟨bq, L2, hu⟩ := hs2.tel
        have HT := Lib.hid ht
        have HU := Lib.hid hu
        have HOK := Lib.hid HS.out.ok
        have HEL : Hid (s.now.ents.length ≤ 36) := by have := HS.out.len; show _ ≤ _; omega
        have HML := Lib.hid HS.out.mem
        clear hs2 hm2 ht hu HS HP HB
        go_wp2_with fail
        refine (awake14 _).mono ?_
        rintro x wx ⟨rfl, hb⟩
        have E' := Lib.hid (Ext.trans E.out hb)
        have HT' := Lib.hid (HT.out.below hb)
        have HU' := Lib.hid (HU.out.below hb)
        clear E hb HT HU
        have E := E'
        clear E'
        have HT := HT'
        clear HT'
        have HU := HU'
        clear HU'
        go_wp2_with fail
        refine (stEntries_any _ HT.out (by have := HEL.out; omega) HOK.out.frag).mono ?_
        rintro x wx ⟨a1, k1, rfl, hr, hb⟩
        have E' := Lib.hid (Ext.trans E.out hb)
        have HT' := Lib.hid (HT.out.below hb)
        have HU' := Lib.hid (HU.out.below hb)
        clear E hb HT HU
        have E := E'
        clear E'
        have HT := HT'
        clear HT'
        have HU := HU'
        clear HU'
        have HE1 := Lib.hid hr.ens
        clear hr
        go_wp2_with fail
        refine (stEntries_any _ HU.out (by have := HEL.out; omega) HOK.out.frag).mono ?_
        rintro x wx ⟨a2, k2, rfl, hr, hb⟩
        have E' := Lib.hid (Ext.trans E.out hb)
        have HT' := Lib.hid (HT.out.below hb)
        have HU' := Lib.hid (HU.out.below hb)
        have HE1' := Lib.hid (HE1.out.below hb)
        clear E hb HT HU HE1
        have E := E'
        clear E'
        have HT := HT'
        clear HT'
        have HU := HU'
        clear HU'
        have HE1 := HE1'
        clear HE1'
        have HE2 := Lib.hid hr.ens
        clear hr
        go_wp2_with fail
        refine (sameAll_any _ _ _ _ _ s.now.ents _ rfl (by have := HEL.out; omega) HE1.out HE2.out HOK.out.small).mono ?_
        rintro x wx ⟨rfl, hb⟩
        have E' := Lib.hid (Ext.trans E.out hb)
        have HT' := Lib.hid (HT.out.below hb)
        have HU' := Lib.hid (HU.out.below hb)
        clear E hb HT HU
        have E := E'
        clear E'
        have HT := HT'
        clear HT'
        have HU := HU'
        clear HU'
        go_wp2_with fail
        refine (stSealed_any _ HT.out).mono ?_
        rintro x wx ⟨rfl, hb⟩
        have E' := Lib.hid (Ext.trans E.out hb)
        have HT' := Lib.hid (HT.out.below hb)
        have HU' := Lib.hid (HU.out.below hb)
        clear E hb HT HU
        have E := E'
        clear E'
        have HT := HT'
        clear HT'
        have HU := HU'
        clear HU'
        go_wp2_with fail
        refine (stSealed_any _ HU.out).mono ?_
        rintro x wx ⟨rfl, hb⟩
        have E' := Lib.hid (Ext.trans E.out hb)
        have HT' := Lib.hid (HT.out.below hb)
        have HU' := Lib.hid (HU.out.below hb)
        clear E hb HT HU
        have E := E'
        clear E'
        have HT := HT'
        clear HT'
        have HU := HU'
        clear HU'
        go_wp2_with fail
        refine (stLast_any _ HT.out (by have := HEL.out; omega)).mono ?_
        rintro x wx ⟨rfl, hb⟩
        have E' := Lib.hid (Ext.trans E.out hb)
        have HT' := Lib.hid (HT.out.below hb)
        have HU' := Lib.hid (HU.out.below hb)
        clear E hb HT HU
        have E := E'
        clear E'
        have HT := HT'
        clear HT'
        have HU := HU'
        clear HU'
        go_wp2_with fail
        refine (stLast_any _ HU.out (by have := HEL.out; omega)).mono ?_
        rintro x wx ⟨rfl, hb⟩
        have E' := Lib.hid (Ext.trans E.out hb)
        have HT' := Lib.hid (HT.out.below hb)
        have HU' := Lib.hid (HU.out.below hb)
        clear E hb HT HU
        have E := E'
        clear E'
        have HT := HT'
        clear HT'
        have HU := HU'
        clear HU'
        go_wp2_with fail
        refine (stBase_any _ HT.out).mono ?_
        rintro x wx ⟨rfl, hb⟩
        have E' := Lib.hid (Ext.trans E.out hb)
        have HT' := Lib.hid (HT.out.below hb)
        have HU' := Lib.hid (HU.out.below hb)
        clear E hb HT HU
        have E := E'
        clear E'
        have HT := HT'
        clear HT'
        have HU := HU'
        clear HU'
        go_wp2_with fail
        refine (stBase_any _ HU.out).mono ?_
        rintro x wx ⟨rfl, hb⟩
        have E' := Lib.hid (Ext.trans E.out hb)
        have HT' := Lib.hid (HT.out.below hb)
        have HU' := Lib.hid (HU.out.below hb)
        clear E hb HT HU
        have E := E'
        clear E'
        have HT := HT'
        clear HT'
        have HU := HU'
        clear HU'
        go_wp2_with fail
        refine (stPos_any _ HT.out).mono ?_
        rintro x wx ⟨rfl, hb⟩
        have E' := Lib.hid (Ext.trans E.out hb)
        have HT' := Lib.hid (HT.out.below hb)
        have HU' := Lib.hid (HU.out.below hb)
        clear E hb HT HU
        have E := E'
        clear E'
        have HT := HT'
        clear HT'
        have HU := HU'
        clear HU'
        go_wp2_with fail
        refine (stPos_any _ HU.out).mono ?_
        rintro x wx ⟨rfl, hb⟩
        have E' := Lib.hid (Ext.trans E.out hb)
        have HT' := Lib.hid (HT.out.below hb)
        have HU' := Lib.hid (HU.out.below hb)
        clear E hb HT HU
        have E := E'
        clear E'
        have HT := HT'
        clear HT'
        have HU := HU'
        clear HU'
        go_wp2_with fail
        refine (stStaged_any _ HT.out).mono ?_
        rintro x wx ⟨rfl, hb⟩
        have E' := Lib.hid (Ext.trans E.out hb)
        have HT' := Lib.hid (HT.out.below hb)
        have HU' := Lib.hid (HU.out.below hb)
        clear E hb HT HU
        have E := E'
        clear E'
        have HT := HT'
        clear HT'
        have HU := HU'
        clear HU'
        go_wp2_with fail
        refine (stStaged_any _ HU.out).mono ?_
        rintro x wx ⟨rfl, hb⟩
        have E' := Lib.hid (Ext.trans E.out hb)
        have HT' := Lib.hid (HT.out.below hb)
        have HU' := Lib.hid (HU.out.below hb)
        clear E hb HT HU
        have E := E'
        clear E'
        have HT := HT'
        clear HT'
        have HU := HU'
        clear HU'
        have hf0 := conf_f0
        have hf1 := conf_f1
        go_wp2_with fail
        refine (stConf_any _ HT.out (by have := HML.out; omega)).mono ?_
        rintro x wx ⟨a3, k3, rfl, -, hb⟩
        have E' := Lib.hid (Ext.trans E.out hb)
        have HT' := Lib.hid (HT.out.below hb)
        have HU' := Lib.hid (HU.out.below hb)
        clear E hb HT HU
        have E := E'
        clear E'
        have HT := HT'
        clear HT'
        have HU := HU'
        clear HU'
        go_wp2_with fail
        refine (stConf_any _ HU.out (by have := HML.out; omega)).mono ?_
        rintro x wx ⟨a4, k4, rfl, -, hb⟩
        have E' := Lib.hid (Ext.trans E.out hb)
        have HT' := Lib.hid (HT.out.below hb)
        have HU' := Lib.hid (HU.out.below hb)
        clear E hb HT HU
        have E := E'
        clear E'
        have HT := HT'
        clear HT'
        have HU := HU'
        clear HU'
        go_wp2_with fail
        refine (stConf_any _ HT.out (by have := HML.out; omega)).mono ?_
        rintro x wx ⟨a5, k5, rfl, hr, hb⟩
        have E' := Lib.hid (Ext.trans E.out hb)
        have HT' := Lib.hid (HT.out.below hb)
        have HU' := Lib.hid (HU.out.below hb)
        clear E hb HT HU
        have E := E'
        clear E'
        have HT := HT'
        clear HT'
        have HU := HU'
        clear HU'
        have HI5 := Lib.hid hr.now
        clear hr
        go_wp2_with fail
        refine (stConf_any _ HU.out (by have := HML.out; omega)).mono ?_
        rintro x wx ⟨a6, k6, rfl, hr, hb⟩
        have E' := Lib.hid (Ext.trans E.out hb)
        have HT' := Lib.hid (HT.out.below hb)
        have HU' := Lib.hid (HU.out.below hb)
        have HI5' := Lib.hid (HI5.out.below hb)
        clear E hb HT HU HI5
        have E := E'
        clear E'
        have HT := HT'
        clear HT'
        have HU := HU'
        clear HU'
        have HI5 := HI5'
        clear HI5'
        have HI6 := Lib.hid hr.now
        clear hr
        go_wp2_with fail
        refine (refInts_any _ _ _ _ _ _ s.now.mem s.now.mem _ rfl rfl HI5.out HI6.out).mono ?_
        rintro x wx ⟨rfl, hb⟩
        have E' := Lib.hid (Ext.trans E.out hb)
        clear E hb 
        have E := E'
        clear E'
        rw [decide_eq_true (rfl : s.now.mem = s.now.mem)]
        go_wp2
        go_ret
        exact ⟨rfl, E.out⟩
      · skip
        go_wp2_with fail
        refine (stOpen_again HS.out HP.out (by omega)).mono ?_
        rintro x w2 ⟨TB, M2, rfl, hs2, hm2, bp, L, ht⟩
        have E : Hid (Ext w w2) := (hm2.below HB.out fun g hg => (HS.out.mLt hg).1).1
        obtain ⟨bq, L2, hu⟩ := hs2.tel
        have HT := Lib.hid ht
        have HU := Lib.hid hu
        have HOK := Lib.hid HS.out.ok
        have HEL : Hid (s.now.ents.length ≤ 36) := by have := HS.out.len; show _ ≤ _; omega
        have HML := Lib.hid HS.out.mem
        clear hs2 hm2 ht hu HS HP HB
        go_wp2_with fail
        refine (awake14 _).mono ?_
        rintro x wx ⟨rfl, hb⟩
        have E' := Lib.hid (Ext.trans E.out hb)
        have HT' := Lib.hid (HT.out.below hb)
        have HU' := Lib.hid (HU.out.below hb)
        clear E hb HT HU
        have E := E'
        clear E'
        have HT := HT'
        clear HT'
        have HU := HU'
        clear HU'
        go_wp2_with fail
        refine (stEntries_any _ HT.out (by have := HEL.out; omega) HOK.out.frag).mono ?_
        rintro x wx ⟨a1, k1, rfl, hr, hb⟩
        have E' := Lib.hid (Ext.trans E.out hb)
        have HT' := Lib.hid (HT.out.below hb)
        have HU' := Lib.hid (HU.out.below hb)
        clear E hb HT HU
        have E := E'
        clear E'
        have HT := HT'
        clear HT'
        have HU := HU'
        clear HU'
        have HE1 := Lib.hid hr.ens
        clear hr
        go_wp2_with fail
        refine (stEntries_any _ HU.out (by have := HEL.out; omega) HOK.out.frag).mono ?_
        rintro x wx ⟨a2, k2, rfl, hr, hb⟩
        have E' := Lib.hid (Ext.trans E.out hb)
        have HT' := Lib.hid (HT.out.below hb)
        have HU' := Lib.hid (HU.out.below hb)
        have HE1' := Lib.hid (HE1.out.below hb)
        clear E hb HT HU HE1
        have E := E'
        clear E'
        have HT := HT'
        clear HT'
        have HU := HU'
        clear HU'
        have HE1 := HE1'
        clear HE1'
        have HE2 := Lib.hid hr.ens
        clear hr
        go_wp2_with fail
        refine (sameAll_any _ _ _ _ _ s.now.ents _ rfl (by have := HEL.out; omega) HE1.out HE2.out HOK.out.small).mono ?_
        rintro x wx ⟨rfl, hb⟩
        have E' := Lib.hid (Ext.trans E.out hb)
        have HT' := Lib.hid (HT.out.below hb)
        have HU' := Lib.hid (HU.out.below hb)
        clear E hb HT HU
        have E := E'
        clear E'
        have HT := HT'
        clear HT'
        have HU := HU'
        clear HU'
        go_wp2_with fail
        refine (stSealed_any _ HT.out).mono ?_
        rintro x wx ⟨rfl, hb⟩
        have E' := Lib.hid (Ext.trans E.out hb)
        have HT' := Lib.hid (HT.out.below hb)
        have HU' := Lib.hid (HU.out.below hb)
        clear E hb HT HU
        have E := E'
        clear E'
        have HT := HT'
        clear HT'
        have HU := HU'
        clear HU'
        go_wp2_with fail
        refine (stSealed_any _ HU.out).mono ?_
        rintro x wx ⟨rfl, hb⟩
        have E' := Lib.hid (Ext.trans E.out hb)
        have HT' := Lib.hid (HT.out.below hb)
        have HU' := Lib.hid (HU.out.below hb)
        clear E hb HT HU
        have E := E'
        clear E'
        have HT := HT'
        clear HT'
        have HU := HU'
        clear HU'
        go_wp2_with fail
        refine (stLast_any _ HT.out (by have := HEL.out; omega)).mono ?_
        rintro x wx ⟨rfl, hb⟩
        have E' := Lib.hid (Ext.trans E.out hb)
        have HT' := Lib.hid (HT.out.below hb)
        have HU' := Lib.hid (HU.out.below hb)
        clear E hb HT HU
        have E := E'
        clear E'
        have HT := HT'
        clear HT'
        have HU := HU'
        clear HU'
        go_wp2_with fail
        refine (stLast_any _ HU.out (by have := HEL.out; omega)).mono ?_
        rintro x wx ⟨rfl, hb⟩
        have E' := Lib.hid (Ext.trans E.out hb)
        have HT' := Lib.hid (HT.out.below hb)
        have HU' := Lib.hid (HU.out.below hb)
        clear E hb HT HU
        have E := E'
        clear E'
        have HT := HT'
        clear HT'
        have HU := HU'
        clear HU'
        go_wp2_with fail
        refine (stBase_any _ HT.out).mono ?_
        rintro x wx ⟨rfl, hb⟩
        have E' := Lib.hid (Ext.trans E.out hb)
        have HT' := Lib.hid (HT.out.below hb)
        have HU' := Lib.hid (HU.out.below hb)
        clear E hb HT HU
        have E := E'
        clear E'
        have HT := HT'
        clear HT'
        have HU := HU'
        clear HU'
        go_wp2_with fail
        refine (stBase_any _ HU.out).mono ?_
        rintro x wx ⟨rfl, hb⟩
        have E' := Lib.hid (Ext.trans E.out hb)
        have HT' := Lib.hid (HT.out.below hb)
        have HU' := Lib.hid (HU.out.below hb)
        clear E hb HT HU
        have E := E'
        clear E'
        have HT := HT'
        clear HT'
        have HU := HU'
        clear HU'
        go_wp2_with fail
        refine (stPos_any _ HT.out).mono ?_
        rintro x wx ⟨rfl, hb⟩
        have E' := Lib.hid (Ext.trans E.out hb)
        have HT' := Lib.hid (HT.out.below hb)
        have HU' := Lib.hid (HU.out.below hb)
        clear E hb HT HU
        have E := E'
        clear E'
        have HT := HT'
        clear HT'
        have HU := HU'
        clear HU'
        go_wp2_with fail
        refine (stPos_any _ HU.out).mono ?_
        rintro x wx ⟨rfl, hb⟩
        have E' := Lib.hid (Ext.trans E.out hb)
        have HT' := Lib.hid (HT.out.below hb)
        have HU' := Lib.hid (HU.out.below hb)
        clear E hb HT HU
        have E := E'
        clear E'
        have HT := HT'
        clear HT'
        have HU := HU'
        clear HU'
        go_wp2_with fail
        refine (stStaged_any _ HT.out).mono ?_
        rintro x wx ⟨rfl, hb⟩
        have E' := Lib.hid (Ext.trans E.out hb)
        have HT' := Lib.hid (HT.out.below hb)
        have HU' := Lib.hid (HU.out.below hb)
        clear E hb HT HU
        have E := E'
        clear E'
        have HT := HT'
        clear HT'
        have HU := HU'
        clear HU'
        go_wp2_with fail
        refine (stStaged_any _ HU.out).mono ?_
        rintro x wx ⟨rfl, hb⟩
        have E' := Lib.hid (Ext.trans E.out hb)
        have HT' := Lib.hid (HT.out.below hb)
        have HU' := Lib.hid (HU.out.below hb)
        clear E hb HT HU
        have E := E'
        clear E'
        have HT := HT'
        clear HT'
        have HU := HU'
        clear HU'
        have hf0 := conf_f0
        have hf1 := conf_f1
        go_wp2_with fail
        refine (stConf_any _ HT.out (by have := HML.out; omega)).mono ?_
        rintro x wx ⟨a3, k3, rfl, -, hb⟩
        have E' := Lib.hid (Ext.trans E.out hb)
        have HT' := Lib.hid (HT.out.below hb)
        have HU' := Lib.hid (HU.out.below hb)
        clear E hb HT HU
        have E := E'
        clear E'
        have HT := HT'
        clear HT'
        have HU := HU'
        clear HU'
        go_wp2_with fail
        refine (stConf_any _ HU.out (by have := HML.out; omega)).mono ?_
        rintro x wx ⟨a4, k4, rfl, -, hb⟩
        have E' := Lib.hid (Ext.trans E.out hb)
        have HT' := Lib.hid (HT.out.below hb)
        have HU' := Lib.hid (HU.out.below hb)
        clear E hb HT HU
        have E := E'
        clear E'
        have HT := HT'
        clear HT'
        have HU := HU'
        clear HU'
        go_wp2_with fail
        refine (stConf_any _ HT.out (by have := HML.out; omega)).mono ?_
        rintro x wx ⟨a5, k5, rfl, hr, hb⟩
        have E' := Lib.hid (Ext.trans E.out hb)
        have HT' := Lib.hid (HT.out.below hb)
        have HU' := Lib.hid (HU.out.below hb)
        clear E hb HT HU
        have E := E'
        clear E'
        have HT := HT'
        clear HT'
        have HU := HU'
        clear HU'
        have HI5 := Lib.hid hr.now
        clear hr
        go_wp2_with fail
        refine (stConf_any _ HU.out (by have := HML.out; omega)).mono ?_
        rintro x wx ⟨a6, k6, rfl, hr, hb⟩
        have E' := Lib.hid (Ext.trans E.out hb)
        have HT' := Lib.hid (HT.out.below hb)
        have HU' := Lib.hid (HU.out.below hb)
        have HI5' := Lib.hid (HI5.out.below hb)
        clear E hb HT HU HI5
        have E := E'
        clear E'
        have HT := HT'
        clear HT'
        have HU := HU'
        clear HU'
        have HI5 := HI5'
        clear HI5'
        have HI6 := Lib.hid hr.now
        clear hr
        go_wp2_with fail
        refine (refInts_any _ _ _ _ _ _ s.now.mem s.now.mem _ rfl rfl HI5.out HI6.out).mono ?_
        rintro x wx ⟨rfl, hb⟩
        have E' := Lib.hid (Ext.trans E.out hb)
        clear E hb 
        have E := E'
        clear E'
        rw [decide_eq_true (rfl : s.now.mem = s.now.mem)]
        go_wp2
        go_ret
        exact ⟨rfl, E.out⟩

end Go.Proofs.Ytdgpbdedaafdiaa
