/-
  When messages are sound, by the reference: Msg.
-/
import Derived.Test.YtggjpjpemgpeeaaGreatWalksH1
import Derived.Test.YtggjpjpemgpeeaaGreatLd
namespace Go.Proofs.YtggjpjpemgpeeaaGreat
open Go.RowKit

theorem sndMg_ref {w : World} {r : Rm} (h : MsgAt w r) : sndMg r.m = (win2 r.m.kind 1 15 && win2 r.m.frm (-5) 15 && win2 r.m.to (-5) 15 && win r.m.epoch 1099511627776 && sndRaw r.m.ent.seq r.m.ent.client r.m.ent.num r.m.ent.op (strB r.m.ent.key) r.m.ent.size r.el && win r.m.e 13 && cnfB r.m.cep r.m.mem && sndEs r.m.ents && (decide (r.fl ≤ 16) && decide (r.kl ≤ 4096) && decide (r.sl ≤ 16)) && r.fs.all (fun (f : Fr) => sndF (f.pos, f.data)) && r.m.keys.all sndK && r.m.srcs.all sndS) := by
  have e1 : sndRaw r.m.ent.seq r.m.ent.client r.m.ent.num r.m.ent.op (strB r.m.ent.key) r.m.ent.size r.el = sndE r.m.ent := by rw [← h.el, sndRaw_eq]
  have e2 : r.m.frags.all sndF = r.fs.all (fun (f : Fr) => sndF (f.pos, f.data)) := by rw [h.hf, List.all_map]; rfl
  have e3 : r.m.frags.length = r.fl := by rw [h.hf, List.length_map, h.fl]
  have e7 : sndC r.m.cep r.m.mem = cnfB r.m.cep r.m.mem := rfl
  have e8 : ∀ n l m, rng n l m = win2 n l m := fun _ _ _ => rfl
  have e9 : ∀ n m, win2 n 0 m = win n m := fun _ _ => rfl
  unfold sndMg sndA sndL
  rw [e1, e2, e3, h.kl, h.sl, e7, e8, e8, e8, e8, e8, e9, e9]

set_option maxRecDepth 100000 in
set_option maxHeartbeats 8000000 in
theorem refMsg_any (r : Rm) (w : World) (h : MsgAt w r) : Calls Tryz.prog 7 #[.agg r.cells] w fun e w' => e = .returned (.bool (sndMg r.m)) ∧ Below w.heap.size w w' := by
  show Calls Tryz.prog 7 #[.agg #[.int .i64 r.m.kind, .int .i64 r.m.frm, .int .i64 r.m.to, .int .i64 r.m.epoch, .int .i64 r.m.ent.seq, .int .i64 r.m.ent.client, .int .i64 r.m.ent.num, .int .i64 r.m.ent.op, .string (strB r.m.ent.key), .int .i64 r.m.ent.size, .int .u32 (r.m.ent.sum : Int), .slice r.loc r.el r.c, .int .i64 r.m.e, .slice r.fa r.fl r.fc, .slice r.ka r.kl r.kc, .int .i64 r.m.cep, .slice r.ma r.ml r.mc, .slice r.sa r.sl r.sc, .slice r.na r.nl r.nc]] w _
  have HB0 : Hid (Below w.heap.size w (w.alloc (.cells #[.int .i64 r.m.kind, .int .i64 r.m.frm, .int .i64 r.m.to, .int .i64 r.m.epoch, .int .i64 r.m.ent.seq, .int .i64 r.m.ent.client, .int .i64 r.m.ent.num, .int .i64 r.m.ent.op, .string (strB r.m.ent.key), .int .i64 r.m.ent.size, .int .u32 (r.m.ent.sum : Int), .slice r.loc r.el r.c, .int .i64 r.m.e, .slice r.fa r.fl r.fc, .slice r.ka r.kl r.kc, .int .i64 r.m.cep, .slice r.ma r.ml r.mc, .slice r.sa r.sl r.sc, .slice r.na r.nl r.nc] 40))) := below_one w _
  have HX0 : Hid (Box (w.alloc (.cells #[.int .i64 r.m.kind, .int .i64 r.m.frm, .int .i64 r.m.to, .int .i64 r.m.epoch, .int .i64 r.m.ent.seq, .int .i64 r.m.ent.client, .int .i64 r.m.ent.num, .int .i64 r.m.ent.op, .string (strB r.m.ent.key), .int .i64 r.m.ent.size, .int .u32 (r.m.ent.sum : Int), .slice r.loc r.el r.c, .int .i64 r.m.e, .slice r.fa r.fl r.fc, .slice r.ka r.kl r.kc, .int .i64 r.m.cep, .slice r.ma r.ml r.mc, .slice r.sa r.sl r.sc, .slice r.na r.nl r.nc] 40)) w.heap.size #[.int .i64 r.m.kind, .int .i64 r.m.frm, .int .i64 r.m.to, .int .i64 r.m.epoch, .int .i64 r.m.ent.seq, .int .i64 r.m.ent.client, .int .i64 r.m.ent.num, .int .i64 r.m.ent.op, .string (strB r.m.ent.key), .int .i64 r.m.ent.size, .int .u32 (r.m.ent.sum : Int), .slice r.loc r.el r.c, .int .i64 r.m.e, .slice r.fa r.fl r.fc, .slice r.ka r.kl r.kc, .int .i64 r.m.cep, .slice r.ma r.ml r.mc, .slice r.sa r.sl r.sc, .slice r.na r.nl r.nc]) := box_new w _ _ _ rfl
  have HM0 := Lib.hid (h.below HB0.out)
  have HS := Lib.hid (sndMg_ref h)
  clear h
  obtain ⟨x0, x1, x2, x3, x4, x5, x6, x7, x8, x9, x10, x11, x12, x13, x14, x15, x16, x17, x18⟩ := box19 HX0.out
  go_enter Tryz.func7, Tryz.ntmps7
  go_wp2_with fail
  generalize w.alloc (.cells #[.int .i64 r.m.kind, .int .i64 r.m.frm, .int .i64 r.m.to, .int .i64 r.m.epoch, .int .i64 r.m.ent.seq, .int .i64 r.m.ent.client, .int .i64 r.m.ent.num, .int .i64 r.m.ent.op, .string (strB r.m.ent.key), .int .i64 r.m.ent.size, .int .u32 (r.m.ent.sum : Int), .slice r.loc r.el r.c, .int .i64 r.m.e, .slice r.fa r.fl r.fc, .slice r.ka r.kl r.kc, .int .i64 r.m.cep, .slice r.ma r.ml r.mc, .slice r.sa r.sl r.sc, .slice r.na r.nl r.nc] 40) = w0 at *
  refine (in_any _ _ _ _).mono ?_
  rintro e w' ⟨rfl, rfl⟩
  cases h0 : win2 r.m.kind 1 15
  · have HF : Hid (false = sndMg r.m) := by show _ = _; rw [HS.out, h0]; simp
    go_wp2
    go_ret
    exact ⟨ret_boolean HF.out, HB0.out⟩
  · have H0 := Lib.hid h0
    clear h0
    go_wp2_with fail
    refine (in_any _ _ _ _).mono ?_
    rintro e w' ⟨rfl, rfl⟩
    cases h1 : win2 r.m.frm (-5) 15
    · have HF : Hid (false = sndMg r.m) := by show _ = _; rw [HS.out, h1]; simp
      go_wp2
      go_ret
      exact ⟨ret_boolean HF.out, HB0.out⟩
    · have H1 := Lib.hid h1
      clear h1
      go_wp2_with fail
      refine (in_any _ _ _ _).mono ?_
      rintro e w' ⟨rfl, rfl⟩
      cases h2 : win2 r.m.to (-5) 15
      · have HF : Hid (false = sndMg r.m) := by show _ = _; rw [HS.out, h2]; simp
        go_wp2
        go_ret
        exact ⟨ret_boolean HF.out, HB0.out⟩
      · have H2 := Lib.hid h2
        clear h2
        go_wp2_with fail
        refine (in0_any _ _ _).mono ?_
        rintro e w' ⟨rfl, rfl⟩
        cases h3 : win r.m.epoch 1099511627776
        · have HF : Hid (false = sndMg r.m) := by show _ = _; rw [HS.out, h3]; simp
          go_wp2
          go_ret
          exact ⟨ret_boolean HF.out, HB0.out⟩
        · have H3 := Lib.hid h3
          clear h3
          go_wp2_with fail
          refine (refEntry_raw _ _ _ _ _ _ _ _ _ _ _).mono ?_
          rintro e w1 ⟨rfl, hb⟩
          have HX1 := Lib.hid (HX0.out.below hb)
          have HM1 := Lib.hid (HM0.out.below hb)
          have HB1 := Lib.hid (HB0.out.trans (hb.mono HB0.out.size))
          clear hb x0 x1 x2 x3 x4 x5 x6 x7 x8 x9 x10 x11 x12 x13 x14 x15 x16 x17 x18 HX0 HM0 HB0
          obtain ⟨x0, x1, x2, x3, x4, x5, x6, x7, x8, x9, x10, x11, x12, x13, x14, x15, x16, x17, x18⟩ := box19 HX1.out
          cases h4 : sndRaw r.m.ent.seq r.m.ent.client r.m.ent.num r.m.ent.op (strB r.m.ent.key) r.m.ent.size r.el
          · have HF : Hid (false = sndMg r.m) := by show _ = _; rw [HS.out, h4]; simp
            go_wp2
            go_ret
            exact ⟨ret_boolean HF.out, HB1.out⟩
          · have H4 := Lib.hid h4
            clear h4
            go_wp2_with fail
            refine (in0_any _ _ _).mono ?_
            rintro e w' ⟨rfl, rfl⟩
            cases h5 : win r.m.e 13
            · have HF : Hid (false = sndMg r.m) := by show _ = _; rw [HS.out, h5]; simp
              go_wp2
              go_ret
              exact ⟨ret_boolean HF.out, HB1.out⟩
            · have H5 := Lib.hid h5
              clear h5
              go_wp2_with fail
              refine (refConf_any _ _ _ _ r.m.mem _ HM1.out.ml HM1.out.mem).mono ?_
              rintro e w2 ⟨rfl, hb⟩
              have HX2 := Lib.hid (HX1.out.below hb)
              have HM2 := Lib.hid (HM1.out.below hb)
              have HB2 := Lib.hid (HB1.out.trans (hb.mono HB1.out.size))
              clear hb x0 x1 x2 x3 x4 x5 x6 x7 x8 x9 x10 x11 x12 x13 x14 x15 x16 x17 x18 HX1 HM1 HB1
              obtain ⟨x0, x1, x2, x3, x4, x5, x6, x7, x8, x9, x10, x11, x12, x13, x14, x15, x16, x17, x18⟩ := box19 HX2.out
              cases h6 : cnfB r.m.cep r.m.mem
              · have HF : Hid (false = sndMg r.m) := by show _ = _; rw [HS.out, h6]; simp
                go_wp2
                go_ret
                exact ⟨ret_boolean HF.out, HB2.out⟩
              · have H6 := Lib.hid h6
                clear h6
                go_wp2_with fail
                refine (refEntries_any _ _ _ r.m.ents _ HM2.out.nl HM2.out.ents).mono ?_
                rintro e w3 ⟨rfl, hb⟩
                have HX3 := Lib.hid (HX2.out.below hb)
                have HM3 := Lib.hid (HM2.out.below hb)
                have HB3 := Lib.hid (HB2.out.trans (hb.mono HB2.out.size))
                clear hb x0 x1 x2 x3 x4 x5 x6 x7 x8 x9 x10 x11 x12 x13 x14 x15 x16 x17 x18 HX2 HM2 HB2
                obtain ⟨x0, x1, x2, x3, x4, x5, x6, x7, x8, x9, x10, x11, x12, x13, x14, x15, x16, x17, x18⟩ := box19 HX3.out
                cases h7 : sndEs r.m.ents
                · have HF : Hid (false = sndMg r.m) := by show _ = _; rw [HS.out, h7]; simp
                  go_wp2
                  go_ret
                  exact ⟨ret_boolean HF.out, HB3.out⟩
                · have H7 := Lib.hid h7
                  clear h7
                  by_cases lfl : r.fl ≤ 16
                  case neg =>
                    have dfl : decide ((16 : Int) < (r.fl : Int)) = true := by simp; omega
                    have HF : Hid (false = sndMg r.m) := by show _ = _; rw [HS.out, show decide (r.fl ≤ 16) = false by simp; omega]; simp
                    go_wp2
                    go_ret
                    exact ⟨ret_boolean HF.out, HB3.out⟩
                  have dfl : decide ((16 : Int) < (r.fl : Int)) = false := by simp; omega
                  by_cases lkl : r.kl ≤ 4096
                  case neg =>
                    have dkl : decide ((4096 : Int) < (r.kl : Int)) = true := by simp; omega
                    have HF : Hid (false = sndMg r.m) := by show _ = _; rw [HS.out, show decide (r.kl ≤ 4096) = false by simp; omega]; simp
                    go_wp2
                    go_ret
                    exact ⟨ret_boolean HF.out, HB3.out⟩
                  have dkl : decide ((4096 : Int) < (r.kl : Int)) = false := by simp; omega
                  by_cases lsl : r.sl ≤ 16
                  case neg =>
                    have dsl : decide ((16 : Int) < (r.sl : Int)) = true := by simp; omega
                    have HF : Hid (false = sndMg r.m) := by show _ = _; rw [HS.out, show decide (r.sl ≤ 16) = false by simp; omega]; simp
                    go_wp2
                    go_ret
                    exact ⟨ret_boolean HF.out, HB3.out⟩
                  have dsl : decide ((16 : Int) < (r.sl : Int)) = false := by simp; omega
                  have HFE := Lib.hid HM3.out.frs
                  have HKE := Lib.hid HM3.out.keys
                  have HSE := Lib.hid HM3.out.srcs
                  have HFL := Lib.hid HM3.out.fl
                  have HKL := Lib.hid HM3.out.kl
                  have HSL := Lib.hid HM3.out.sl
                  go_wp2
                  go_loop [3] (fun i => ∃ k : Nat, k ≤ r.fl ∧ i = .int .i64 k ∧ Hid (UpTo r.fs (fun (f : Fr) => sndF (f.pos, f.data)) fr0 k)) (fun i => r.fl - (intOf i).toNat)
                  case atStart => exact ⟨0, Nat.zero_le _, rfl, upTo_zero _ _ _⟩
                  case round =>
                  obtain ⟨k, hk, rfl, HU⟩ := hrel
                  have j0 : (0 : Int) ≤ (k : Int) := by omega
                  by_cases hlt : k < r.fl
                  case pos =>
                    have j1 : (k : Int) < (r.fl : Int) := by omega
                    obtain ⟨b, off, hfa, hc0, hc1, _⟩ := HFE.out.el k (by rw [HFL.out]; exact hlt)
                    rw [hfa] at x13
                    clear hfa
                    have HNO : Hid ((fun (f : Fr) => sndF (f.pos, f.data)) (r.fs.getD k fr0) = false → false = sndMg r.m) := fun hw => by rw [HS.out, all_no r.fs (fun (f : Fr) => sndF (f.pos, f.data)) fr0 k (by rw [HFL.out]; exact hlt) hw]; simp
                    have HYES : Hid ((fun (f : Fr) => sndF (f.pos, f.data)) (r.fs.getD k fr0) = true → UpTo r.fs (fun (f : Fr) => sndF (f.pos, f.data)) fr0 (k + 1)) := fun hw => HU.out.step (p := (fun (f : Fr) => sndF (f.pos, f.data))) hw
                    generalize r.fs.getD k fr0 = p at *
                    have HW : Hid (sndF (p.pos, p.data) = (win p.pos 15 && decide (p.data.length ≤ 256))) := rfl
                    go_wp2_with fail
                    refine (in0_any _ _ _).mono ?_
                    rintro e w' ⟨rfl, rfl⟩
                    cases hw : win p.pos 15
                    · skip
                      have HF := Lib.hid (HNO.out (by show sndF _ = _; rw [HW.out, hw]; simp))
                      go_wp2
                      go_ret
                      exact ⟨ret_boolean HF.out, HB3.out⟩
                    · skip
                      by_cases hd : p.data.length ≤ 256
                      · have d : decide ((256 : Int) < (p.data.length : Int)) = false := by simp; omega
                        have HU' := Lib.hid (HYES.out (by show sndF _ = _; rw [HW.out, hw]; simp; exact hd))
                        go_wp2
                        go_round
                        case rel => exact ⟨k + 1, by omega, by go_num, HU'⟩
                        case measure => simp [intOf]; omega
                      · have d : decide ((256 : Int) < (p.data.length : Int)) = true := by simp; omega
                        have HF := Lib.hid (HNO.out (by show sndF _ = _; rw [HW.out, hw]; simp; omega))
                        go_wp2
                        go_ret
                        exact ⟨ret_boolean HF.out, HB3.out⟩
                  have hkl : k = r.fl := by omega
                  have HAfl : Hid (r.fs.all (fun (f : Fr) => sndF (f.pos, f.data)) = true) := all_yes r.fs (fun (f : Fr) => sndF (f.pos, f.data)) fr0 (by rw [HFL.out, ← hkl]; exact HU.out)
                  subst hkl
                  clear HU
                  go_wp2
                  go_loop [4] (fun i => ∃ k : Nat, k ≤ r.kl ∧ i = .int .i64 k ∧ Hid (UpTo r.m.keys sndK [] k)) (fun i => r.kl - (intOf i).toNat)
                  case atStart => exact ⟨0, Nat.zero_le _, rfl, upTo_zero _ _ _⟩
                  case round =>
                  obtain ⟨k, hk, rfl, HU⟩ := hrel
                  have j0 : (0 : Int) ≤ (k : Int) := by omega
                  by_cases hlt : k < r.kl
                  case pos =>
                    have j1 : (k : Int) < (r.kl : Int) := by omega
                    obtain ⟨b, off, hka, hcel⟩ := HKE.out.cell k (by rw [HKL.out]; exact hlt)
                    rw [hka] at x14
                    clear hka
                    have HNO : Hid (sndK (r.m.keys.getD k []) = false → false = sndMg r.m) := fun hw => by rw [HS.out, all_no r.m.keys sndK [] k (by rw [HKL.out]; exact hlt) hw]; simp
                    have HYES : Hid (sndK (r.m.keys.getD k []) = true → UpTo r.m.keys sndK [] (k + 1)) := fun hw => HU.out.step (p := sndK) hw
                    generalize r.m.keys.getD k [] = p at *
                    have hsz := strB_size p
                    generalize strB p = sp at *
                    obtain ⟨kz, hkz⟩ : ∃ q, sp.size = q := ⟨_, rfl⟩
                    rw [hkz] at hsz
                    by_cases hd : kz ≤ 16
                    · have d : decide ((16 : Int) < (kz : Int)) = false := by simp; omega
                      have HU' := Lib.hid (HYES.out (by show sndK p = true; unfold sndK; simp; omega))
                      go_wp2
                      go_round
                      case rel => exact ⟨k + 1, by omega, by go_num, HU'⟩
                      case measure => simp [intOf]; omega
                    · have d : decide ((16 : Int) < (kz : Int)) = true := by simp; omega
                      have HF := Lib.hid (HNO.out (by show sndK p = false; unfold sndK; simp; omega))
                      go_wp2
                      go_ret
                      exact ⟨ret_boolean HF.out, HB3.out⟩
                  have hkl : k = r.kl := by omega
                  have HAkl : Hid (r.m.keys.all sndK = true) := all_yes r.m.keys sndK [] (by rw [HKL.out, ← hkl]; exact HU.out)
                  subst hkl
                  clear HU
                  go_wp2
                  go_loop [5] (fun i => ∃ k : Nat, k ≤ r.sl ∧ i = .int .i64 k ∧ Hid (UpTo r.m.srcs sndS (0, 0) k)) (fun i => r.sl - (intOf i).toNat)
                  case atStart => exact ⟨0, Nat.zero_le _, rfl, upTo_zero _ _ _⟩
                  case round =>
                  obtain ⟨k, hk, rfl, HU⟩ := hrel
                  have j0 : (0 : Int) ≤ (k : Int) := by omega
                  by_cases hlt : k < r.sl
                  case pos =>
                    have j1 : (k : Int) < (r.sl : Int) := by omega
                    obtain ⟨b, off, hsa, hc0, hc1⟩ := HSE.out.cell k (by rw [HSL.out]; exact hlt)
                    rw [hsa] at x17
                    clear hsa
                    have HNO : Hid (sndS (r.m.srcs.getD k (0, 0)) = false → false = sndMg r.m) := fun hw => by rw [HS.out, all_no r.m.srcs sndS (0, 0) k (by rw [HSL.out]; exact hlt) hw]; simp
                    have HYES : Hid (sndS (r.m.srcs.getD k (0, 0)) = true → UpTo r.m.srcs sndS (0, 0) (k + 1)) := fun hw => HU.out.step (p := sndS) hw
                    generalize r.m.srcs.getD k (0, 0) = p at *
                    have HW : Hid (sndS p = (win p.1 15 && win p.2 15)) := rfl
                    go_wp2_with fail
                    refine (in0_any _ _ _).mono ?_
                    rintro e w' ⟨rfl, rfl⟩
                    cases hw : win p.1 15
                    · skip
                      have HF := Lib.hid (HNO.out (by rw [HW.out, hw]; simp))
                      go_wp2
                      go_ret
                      exact ⟨ret_boolean HF.out, HB3.out⟩
                    · skip
                      go_wp2_with fail
                      refine (in0_any _ _ _).mono ?_
                      rintro e w' ⟨rfl, rfl⟩
                      cases hw2 : win p.2 15
                      · skip
                        have HF := Lib.hid (HNO.out (by rw [HW.out, hw, hw2]; simp))
                        go_wp2
                        go_ret
                        exact ⟨ret_boolean HF.out, HB3.out⟩
                      · skip
                        have HU' := Lib.hid (HYES.out (by rw [HW.out, hw, hw2]; simp))
                        go_wp2
                        go_round
                        case rel => exact ⟨k + 1, by omega, by go_num, HU'⟩
                        case measure => simp [intOf]; omega
                  have hkl : k = r.sl := by omega
                  have HAsl : Hid (r.m.srcs.all sndS = true) := all_yes r.m.srcs sndS (0, 0) (by rw [HSL.out, ← hkl]; exact HU.out)
                  subst hkl
                  clear HU
                  go_wp2
                  have HF : Hid (true = sndMg r.m) := by show _ = _; rw [HS.out, H0.out, H1.out, H2.out, H3.out, H4.out, H5.out, H6.out, H7.out, HAfl.out, HAkl.out, HAsl.out, show decide (r.fl ≤ 16) = true by simp; exact lfl, show decide (r.kl ≤ 4096) = true by simp; exact lkl, show decide (r.sl ≤ 16) = true by simp; exact lsl]; simp
                  go_ret
                  exact ⟨ret_boolean HF.out, HB3.out⟩

end Go.Proofs.YtggjpjpemgpeeaaGreat
