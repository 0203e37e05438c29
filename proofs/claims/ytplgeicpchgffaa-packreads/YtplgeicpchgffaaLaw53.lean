/-
  The walk of the law PackReads.
-/
import Derived.Test.YtplgeicpchgffaaWalksV4
import Derived.Test.YtplgeicpchgffaaWalksV5
import Derived.Test.YtplgeicpchgffaaArgI
import Derived.Test.YtplgeicpchgffaaLaw51
import Derived.Deep.DeepCutAuto
namespace Go.Proofs.Ytplgeicpchgffaa
open Go.RowKit

/-- An invalid Reader has nothing left. -/
def Pk.Ok (s : Pk.St) : Prop := s.2 = true → s.1 = []

theorem Pk.ok_none (s : Pk.St) (h : Pk.Ok s) (hb : s.2 = true) : (Pk.rd s.1).2 = 0 := by rw [h hb]; rfl

theorem Pk.vT_none (s : Pk.St) (h : (Pk.rd s.1).2 = 0) : Pk.vT s = [] ∧ Pk.nT s = ([], true) := by
  have hv := Pk.vN_none s h
  have hn := Pk.nN_none s h
  have hg : Pk.badT s = false := Pk.badT_mkno s (by rw [hv, hn]; simp)
  rw [Pk.vT_good s hg, Pk.nT_good s hg, hv, hn]
  simp

theorem Pk.vC_none (s : Pk.St) (m : Int) (h : (Pk.rd s.1).2 = 0) : Pk.vC s m = 0 ∧ Pk.nC s m = ([], true) := by
  have hv := Pk.vN_none s h
  have hn := Pk.nN_none s h
  by_cases hb : Pk.badC s m = true
  · rw [Pk.vC_bad s m hb, Pk.nC_bad s m hb]; simp
  · have hb' : Pk.badC s m = false := by simpa using hb
    rw [Pk.vC_good s m hb', Pk.nC_good s m hb', hv, hn]; simp

/-- What the law keeps: the rest, the place and the mark, and the Reader at R alike. -/
structure Kept (w ws : World) (R : Nat) (ar : Option Addr) (cr : Nat) (s : Pk.St) : Prop where
  seen : SeenAt w ar cr s.1
  rdr : Rdr ws R s
  ok : Pk.Ok s
  below : Below w.heap.size w ws

theorem Kept.gone {w ws w2 : World} {R cr : Nat} {ar : Option Addr} {s : Pk.St} (h : Kept w ws R ar cr s) (hR : w.heap.size ≤ R) (hr : Rdr w2 R ([], true)) (hb : Chg [R] ws w2) : Kept w w2 R none 0 ([], true) :=
  ⟨SeenAt.nil (Nat.zero_le _), hr, fun _ => rfl, hb.below h.below h.below.size (by simpa using hR)⟩

theorem Kept.on {w ws w2 : World} {R cr cr' : Nat} {ar ar' : Option Addr} {s : Pk.St} {bs : List Nat} (h : Kept w ws R ar cr s) (hR : w.heap.size ≤ R) (hs : SeenAt w ar' cr' bs) (hr : Rdr w2 R (bs, false)) (hb : Chg [R] ws w2) : Kept w w2 R ar' cr' (bs, false) :=
  ⟨hs, hr, fun h => Bool.noConfusion h, hb.below h.below h.below.size (by simpa using hR)⟩

theorem strB_none : strB [] = ⟨#[]⟩ := rfl

/-- The first bytes, 500 at most. -/
def Clamped (w : World) (a : Option Addr) (c : Nat) (v : Value) : Prop := ∃ (l : Nat) (qs : List Nat), v = .slice a l c ∧ l ≤ 500 ∧ qs.length = l ∧ SeenAt w a c qs




set_option maxRecDepth 100000 in
set_option maxHeartbeats 8000000 in
theorem packReads_walk (a0 : Option Addr) (len0 cap0 : Nat) (m0 : List Nat) (a1 : Option Addr) (len1 cap1 : Nat) (m1 : List Int) (w : World) (w0 : m0.length = len0 ∧ SeenAt w a0 cap0 m0) (w1 : m1.length = len1 ∧ IntsAt w a1 cap1 m1) :
    Calls Try.prog 5 #[.slice a0 len0 cap0, .slice a1 len1 cap1] w fun e w' => e = .returned (.bool true) ∧ Below w.heap.size w w' := by
  have h0 : len0 ≤ maxLen := by have := w0.1; have := w0.2.le; have := w0.2.max; omega
  have hc0 : len0 ≤ cap0 := by have := w0.1; have := w0.2.le; omega
  have hm0 : cap0 ≤ maxLen := w0.2.max
  have h1 : len1 ≤ maxLen := by have := w1.1; have := w1.2.le; have := w1.2.max; omega
  unfold maxLen at h0 h1 hm0
  have H0 := Lib.hid w0.1
  have S0 := Lib.hid w0.2
  have H1 := Lib.hid w1.1
  have S1 := Lib.hid w1.2
  clear w0 w1
  go_enter Try.func5, Try.ntmps5
  go_upto_if 14 with fail
  go_cut [0, 14] (fun s _ wx => Clamped w a0 cap0 s ∧ wx = w)
  case first =>
    by_cases h500 : 500 < len0
    · have d1 : decide ((500 : Int) < (len0 : Int)) = true := by simp; omega
      obtain ⟨b, off, e, _⟩ := S0.out.cell 0 (by rw [H0.out]; omega)
      subst e
      have hcc : 500 ≤ cap0 := by omega
      have HTK := Lib.hid (S0.out.take 500)
      have HTL : Hid ((m0.take 500).length = 500) := by show _ = _; rw [List.length_take, H0.out]; omega
      go_wp2_with fail
      go_meet
      exact ⟨⟨500, m0.take 500, rfl, by omega, HTL.out, HTK.out⟩, rfl⟩
    · have d1 : decide ((500 : Int) < (len0 : Int)) = false := by simp; omega
      go_wp2_with fail
      go_meet
      exact ⟨⟨len0, m0, rfl, by omega, H0.out, S0.out⟩, rfl⟩
  case rest =>
  obtain ⟨⟨l, ps, rfl, hl5, hl, hs⟩, hw⟩ := hcut
  obtain rfl := hw.symm
  have HL := Lib.hid hl
  have HS := Lib.hid hs
  have hcl : l ≤ cap0 := by rw [← hl]; exact hs.le
  clear hl hs H0 S0 h0 hc0
  go_wp2_with fail
  refine (new_any _ _ _ ps _ HL.out (by omega) HS.out).mono ?_
  rintro e w1 ⟨R, rfl, hR, hr1, hb1⟩
  have HR1 := Lib.hid hr1
  have HB1 := Lib.hid hb1
  clear hr1 hb1
  go_wp2
  go_loopw [6, 7, 8, 9, 10, 11, 62, 98] (fun rest bad i _ _ _ _ _ ws => ∃ (j cr : Nat) (ar : Option Addr) (s : Pk.St), j ≤ len1 ∧ j ≤ 60 ∧ s.1.length ≤ 500 ∧ i = .int .i64 (j : Int) ∧ rest = .slice ar s.1.length cr ∧ bad = .bool s.2 ∧ Hid (Kept w ws R ar cr s)) (fun _ _ i _ _ _ _ _ _ => 60 - (intOf i).toNat)
  case atStart => exact ⟨0, cap0, a0, (ps, false), Nat.zero_le _, Nat.zero_le _, by show ps.length ≤ 500; rw [HL.out]; exact hl5, rfl, by show Value.slice a0 l cap0 = .slice a0 ps.length cap0; rw [HL.out], rfl, ⟨HS.out, HR1.out, fun h => Bool.noConfusion h, HB1.out⟩⟩
  case round =>
    obtain ⟨j, cr, ar, s, hj, hj60, hs5, rfl, rfl, rfl, HK⟩ := hrel
    obtain ⟨bs, bd⟩ := s
    by_cases hlt : j < len1 ∧ j < 60
    · obtain ⟨hlt, hlt6⟩ := hlt
      have d1 : decide ((j : Int) < (len1 : Int)) = true := by simp; omega
      have d2 : decide (j < len1) = true := by simp; omega
      have d3 : decide ((j : Int) < 60) = true := by simp; omega
      have HRD := Lib.hid (refRead_any ar cr bs.length bs wr rfl (HK.out.seen.below HK.out.below))
      have hKb := (Pk.rd_bound bs).1
      have hnr := Pk.vN_range (bs, bd)
      have HVN : Hid (Pk.vN (bs, bd) = Pk.unf (Pk.rd bs).1) := rfl
      rw [← HVN.out] at HRD
      have HZ : Hid ((Pk.rd bs).2 = 0 → bd = true → True) := fun _ _ => trivial
      have HOK : Hid (bd = true → (Pk.rd bs).2 = 0) := fun h => Pk.ok_none (bs, bd) HK.out.ok h
      have HNN0 : Hid ((Pk.rd bs).2 = 0 → Pk.vN (bs, bd) = 0 ∧ Pk.nN (bs, bd) = ([], true)) := fun h => ⟨Pk.vN_none (bs, bd) h, Pk.nN_none (bs, bd) h⟩
      have HNN1 : Hid (¬ (Pk.rd bs).2 = 0 → Pk.nN (bs, bd) = (bs.drop (Pk.rd bs).2, bd)) := fun h => Pk.nN_some (bs, bd) h
      have HT0 : Hid ((Pk.rd bs).2 = 0 → Pk.vT (bs, bd) = [] ∧ Pk.nT (bs, bd) = ([], true)) := fun h => Pk.vT_none (bs, bd) h
      have HC0 : Hid ((Pk.rd bs).2 = 0 → ∀ m, Pk.vC (bs, bd) m = 0 ∧ Pk.nC (bs, bd) m = ([], true)) := fun h m => Pk.vC_none (bs, bd) m h
      have HTX := Lib.hid (rText_any R (bs, bd) wr HK.out.rdr (Nat.le_trans hs5 (by omega)))
      have HNX := Lib.hid (rNum_any R (bs, bd) wr HK.out.rdr)
      have HCX := Lib.hid (fun m => rCount_any R m (bs, bd) wr HK.out.rdr)
      generalize (Pk.rd bs).2 = K at *
      generalize hn : Pk.vN (bs, bd) = n at *
      have HN := Lib.hid hn
      clear hn HVN HZ
      obtain ⟨b1, off1, rfl, hcz⟩ := (S1.out.below HK.out.below).cell j (by rw [H1.out]; exact hlt)
      have hzr := S1.out.wf j
      generalize m1.getD j 0 = z at *
      have j0 : (0 : Int) ≤ (j : Int) := by omega
      have j1 : (j : Int) < (len1 : Int) := by omega
      go_wp2_with fail
      refine HRD.out.mono ?_
      rintro e w' ⟨rfl, rfl⟩
      go_upto_region 9 with fail
      go_cut [7] (fun v wx => (∃ bb : Bool, v = .bool bb ∧ Hid (bb = decide (K = 0))) ∧ wx = wr)
      case first =>
        by_cases hk0 : 0 < K
        · have t : ((K : Int) == 0) = false := by simp; omega
          cases bd
          · go_wp2_with fail
            go_meet
            exact ⟨⟨false, rfl, by show _ = _; symm; simp; omega⟩, rfl⟩
          · have := HOK.out rfl
            omega
        · have t : ((K : Int) == 0) = true := by simp; omega
          cases bd
          · go_wp2_with fail
            go_meet
            exact ⟨⟨true, rfl, by show _ = _; symm; simp; omega⟩, rfl⟩
          · go_wp2_with fail
            go_meet
            exact ⟨⟨true, rfl, by show _ = _; symm; simp; omega⟩, rfl⟩
      case rest =>
      obtain ⟨⟨bb, rfl, hbb⟩, hw⟩ := hcut
      obtain rfl := hw.symm
      clear hw
      have zz : (z == 1) = true ∨ ((z == 1) = false ∧ (z == 0) = true) ∨ ((z == 1) = false ∧ (z == 0) = false) := by
        by_cases e1 : z = 1
        · left; simp [e1]
        · by_cases e0 : z = 0
          · right; left; simp [e0]
          · right; right; simp [e0, e1]
      cases bb
      · have hK0 : ¬ K = 0 := by have := hbb.out; simpa using this.symm
        have hbs : 0 < bs.length := by omega
        cases bd
        case true => exact absurd (HOK.out rfl) hK0
        have hN2 := HNN1.out hK0
        have hcr : bs.length ≤ cr := HK.out.seen.le
        have hcm : cr ≤ maxLen := HK.out.seen.max
        unfold maxLen at hcm
        obtain ⟨b, off, rfl, _⟩ := HK.out.seen.cell 0 hbs
        clear HT0 HNN0 HC0 HOK HNN1 HRD hbb
        rcases zz with z1 | ⟨z1, z0⟩ | ⟨z1, z0⟩
        · by_cases hbad : Pk.badT (bs, false) = true
          · have hy := Pk.badT_yes (bs, false) hbad
            rw [HN.out, hN2] at hy
            rw [Pk.vT_bad _ hbad, Pk.nT_bad _ hbad] at HTX
            have hld : (bs.drop K).length = bs.length - K := by rw [List.length_drop]
            have t : decide (n < 0) = true ∨ (decide (n < 0) = false ∧ decide ((bs.length : Int) - (K : Int) < n) = true) := by
              have hy' : n < 0 ∨ (((bs.drop K).length : Nat) : Int) < n := hy
              rw [hld] at hy'
              simp
              omega
            clear hy hN2 hbad hld HN
            rcases t with t | ⟨t, t'⟩
            · skip
              go_wp2_with fail
              refine HTX.out.mono ?_
              rintro e w2 ⟨at2, ct2, rfl, hst, hr2, hb2⟩
              have hq : (convert 22 9 (.slice at2 0 ct2)).run Try.prog w2 = .ok (.string ⟨#[]⟩) w2 := str_of hst
              have HK2 := Lib.hid (HK.out.gone hR hr2 hb2)
              clear hst hr2 hb2
              go_wp2
              go_roundw
              case rel => exact ⟨j + 1, 0, none, ([], true), by omega, by omega, by simp, by go_num, rfl, rfl, HK2⟩
              case measure => simp [intOf]; omega
            · skip
              go_wp2_with fail
              refine HTX.out.mono ?_
              rintro e w2 ⟨at2, ct2, rfl, hst, hr2, hb2⟩
              have hq : (convert 22 9 (.slice at2 0 ct2)).run Try.prog w2 = .ok (.string ⟨#[]⟩) w2 := str_of hst
              have HK2 := Lib.hid (HK.out.gone hR hr2 hb2)
              clear hst hr2 hb2
              go_wp2
              go_roundw
              case rel => exact ⟨j + 1, 0, none, ([], true), by omega, by omega, by simp, by go_num, rfl, rfl, HK2⟩
              case measure => simp [intOf]; omega
          · have hbad' : Pk.badT (bs, false) = false := by simpa using hbad
            obtain ⟨ty0, ty1⟩ := Pk.badT_no (bs, false) hbad'
            rw [Pk.vT_good _ hbad', Pk.nT_good _ hbad', HN.out, hN2] at HTX
            rw [HN.out, hN2] at ty1
            rw [HN.out] at ty0
            have hld : (bs.drop K).length = bs.length - K := by rw [List.length_drop]
            have ty2 : n ≤ (((bs.drop K).length : Nat) : Int) := ty1
            rw [hld] at ty2
            clear ty1 hN2 hbad hbad' hld HN HNX HCX
            obtain ⟨NN, rfl⟩ : ∃ NN : Nat, n = (NN : Int) := ⟨n.toNat, by omega⟩
            rw [Int.toNat_natCast] at HTX
            have hKN : K + NN ≤ bs.length := by omega
            have t : decide ((NN : Int) < 0) = false := by simp
            have t' : decide ((bs.length : Int) - (K : Int) < (NN : Int)) = false := by simp; omega
            have HTX' : Hid (Calls Try.prog 15 #[.pointer (some ⟨R, 0, none⟩)] wr (RTxt wr R ((bs.drop K).take NN) (bs.drop (K + NN), false))) := by
              have := HTX.out
              rw [← List.drop_drop]
              exact this
            clear HTX ty0 ty2
            by_cases he : cr = K
            · subst he
              obtain rfl : NN = 0 := by omega
              have he' : bs.length = cr := by omega
              have HD : Hid (bs.drop cr = []) := by show _ = _; rw [← he', List.drop_length]
              rw [he']
              rw [Nat.add_zero, HD.out, List.take_zero] at HTX'
              clear he'
              have hq0 : (convert 22 9 (.slice (some ⟨b, off, none⟩) 0 0)).run Try.prog wr = .ok (.string ⟨#[]⟩) wr := str_of (SeenAt.nil (Nat.zero_le _))
              go_wp2_with fail
              refine HTX'.out.mono ?_
              rintro e w2 ⟨at2, ct2, rfl, hst, hr2, hb2⟩
              have hq : (convert 22 9 (.slice at2 0 ct2)).run Try.prog w2 = .ok (.string ⟨#[]⟩) w2 := str_of hst
              have HK2 := Lib.hid (HK.out.on (ar' := some ⟨b, off, none⟩) (cr' := 0) hR (SeenAt.nil (Nat.zero_le _)) hr2 hb2)
              clear hst hr2 hb2
              go_wp2
              go_roundw
              case rel => exact ⟨j + 1, 0, some ⟨b, off, none⟩, ([], false), by omega, by omega, by simp, by go_num, rfl, rfl, HK2⟩
              case measure => simp [intOf]; omega
            · have hne : ¬ K = cr := fun e => he e.symm
              have HTL : Hid (((bs.drop K).take NN).length = NN) := by show _ = _; rw [List.length_take, List.length_drop]; omega
              have hq0 := str_at (((HK.out.seen.below HK.out.below).drop K hKb).take NN) HTL.out
              have HST := Lib.hid (fun (w' : World) x c (h : SeenAt w' x c ((bs.drop K).take NN)) => str_at h HTL.out)
              generalize strB ((bs.drop K).take NN) = st at *
              by_cases he2 : cr = K + NN
              · have HD : Hid (bs.drop (K + NN) = []) := by show _ = _; rw [show K + NN = bs.length by omega, List.drop_length]
                rw [HD.out] at HTX'
                rw [show NN = cr - K by omega] at hq0
                have he3 : K + NN = cr := he2.symm
                have he4 : bs.length - cr = 0 := by omega
                clear he2
                go_wp2_with fail
                refine HTX'.out.mono ?_
                rintro e w2 ⟨at2, ct2, rfl, hst, hr2, hb2⟩
                have hq := HST.out _ _ _ hst
                rw [HTL.out]
                have HK2 := Lib.hid (HK.out.on (ar' := some ⟨b, off, none⟩) (cr' := 0) hR (SeenAt.nil (Nat.zero_le _)) hr2 hb2)
                clear hst hr2 hb2
                go_wp2
                go_roundw
                case rel => exact ⟨j + 1, 0, some ⟨b, off, none⟩, ([], false), by omega, by omega, by simp, by go_num, by rw [show bs.length - (K + NN) = 0 by omega, show cr - (K + NN) = 0 by omega]; rfl, rfl, HK2⟩
                case measure => simp [intOf]; omega
              · have hne2 : ¬ K + NN = cr := fun e => he2 e.symm
                have HSD := Lib.hid (HK.out.seen.drop (K + NN) hKN)
                have HDL : Hid ((bs.drop (K + NN)).length = bs.length - (K + NN)) := by show _ = _; rw [List.length_drop]
                go_wp2_with fail
                refine HTX'.out.mono ?_
                rintro e w2 ⟨at2, ct2, rfl, hst, hr2, hb2⟩
                have hq := HST.out _ _ _ hst
                rw [HTL.out]
                have HK2 := Lib.hid (HK.out.on hR HSD.out hr2 hb2)
                clear hst hr2 hb2
                go_wp2
                go_roundw
                case rel => exact ⟨j + 1, cr - (K + NN), some ⟨b, off + (K + NN), none⟩, (bs.drop (K + NN), false), by omega, by omega, by show (bs.drop (K + NN)).length ≤ 500; rw [HDL.out]; omega, by go_num, by show _ = Value.slice _ (bs.drop (K + NN)).length _; rw [HDL.out], rfl, HK2⟩
                case measure => simp [intOf]; omega
        · rw [hN2] at HNX
          clear hN2
          by_cases he : cr = K
          · subst he
            obtain he' : bs.length = cr := by omega
            have HD : Hid (bs.drop cr = []) := by show _ = _; rw [← he', List.drop_length]
            rw [he']
            have HXX := Lib.hid HNX.out
            rw [HD.out] at HXX
            clear he'
            go_wp2_with fail
            refine HXX.out.mono ?_
            rintro e w2 ⟨rfl, hr2, hb2⟩
            have HK2 := Lib.hid (HK.out.on (ar' := some ⟨b, off, none⟩) (cr' := 0) hR (SeenAt.nil (Nat.zero_le _)) hr2 hb2)
            clear hr2 hb2
            go_wp2
            go_roundw
            case rel => exact ⟨j + 1, 0, some ⟨b, off, none⟩, ([], false), by omega, by omega, by simp, by go_num, rfl, rfl, HK2⟩
            case measure => simp [intOf]; omega
          · have hne : ¬ K = cr := fun e => he e.symm
            have HSD := Lib.hid (HK.out.seen.drop K hKb)
            have HXX := Lib.hid HNX.out
            have HDL : Hid ((bs.drop K).length = bs.length - K) := by show _ = _; rw [List.length_drop]
            go_wp2_with fail
            refine HXX.out.mono ?_
            rintro e w2 ⟨rfl, hr2, hb2⟩
            have HK2 := Lib.hid (HK.out.on hR HSD.out hr2 hb2)
            clear hr2 hb2
            go_wp2
            go_roundw
            case rel => exact ⟨j + 1, cr - K, some ⟨b, off + K, none⟩, (bs.drop K, false), by omega, by omega, by show (bs.drop K).length ≤ 500; rw [HDL.out]; omega, by go_num, by show _ = Value.slice _ (bs.drop K).length _; rw [HDL.out], rfl, HK2⟩
            case measure => simp [intOf]; omega
        · by_cases hbad : Pk.badC (bs, false) z = true
          · have HCZ := Lib.hid (HCX.out z)
            rw [Pk.vC_bad _ _ hbad, Pk.nC_bad _ _ hbad] at HCZ
            have t : decide (n < 0) = true ∨ (decide (n < 0) = false ∧ decide (z < n) = true) := by
              unfold Pk.badC at hbad
              rw [HN.out] at hbad
              simp at hbad ⊢
              omega
            clear hN2 hbad HN HCX
            rcases t with t | ⟨t, t'⟩
            · skip
              go_wp2_with fail
              refine (HCZ.out).mono ?_
              rintro e w2 ⟨rfl, hr2, hb2⟩
              have HK2 := Lib.hid (HK.out.gone hR hr2 hb2)
              clear hr2 hb2
              go_wp2
              go_roundw
              case rel => exact ⟨j + 1, 0, none, ([], true), by omega, by omega, by simp, by go_num, rfl, rfl, HK2⟩
              case measure => simp [intOf]; omega
            · skip
              go_wp2_with fail
              refine (HCZ.out).mono ?_
              rintro e w2 ⟨rfl, hr2, hb2⟩
              have HK2 := Lib.hid (HK.out.gone hR hr2 hb2)
              clear hr2 hb2
              go_wp2
              go_roundw
              case rel => exact ⟨j + 1, 0, none, ([], true), by omega, by omega, by simp, by go_num, rfl, rfl, HK2⟩
              case measure => simp [intOf]; omega
          · have hbad' : Pk.badC (bs, false) z = false := by simpa using hbad
            have HCZ := Lib.hid (HCX.out z)
            rw [Pk.vC_good _ _ hbad', Pk.nC_good _ _ hbad', HN.out, hN2] at HCZ
            have ty : 0 ≤ n ∧ n ≤ z := by
              unfold Pk.badC at hbad'
              rw [HN.out] at hbad'
              simp at hbad'
              omega
            have t : decide (n < 0) = false := by simp; omega
            have t' : decide (z < n) = false := by simp; omega
            clear hN2 hbad hbad' HN HCX ty
            by_cases he : cr = K
            · subst he
              obtain he' : bs.length = cr := by omega
              have HD : Hid (bs.drop cr = []) := by show _ = _; rw [← he', List.drop_length]
              rw [he']
              have HXX := Lib.hid HCZ.out
              rw [HD.out] at HXX
              clear he'
              go_wp2_with fail
              refine HXX.out.mono ?_
              rintro e w2 ⟨rfl, hr2, hb2⟩
              have HK2 := Lib.hid (HK.out.on (ar' := some ⟨b, off, none⟩) (cr' := 0) hR (SeenAt.nil (Nat.zero_le _)) hr2 hb2)
              clear hr2 hb2
              go_wp2
              go_roundw
              case rel => exact ⟨j + 1, 0, some ⟨b, off, none⟩, ([], false), by omega, by omega, by simp, by go_num, rfl, rfl, HK2⟩
              case measure => simp [intOf]; omega
            · have hne : ¬ K = cr := fun e => he e.symm
              have HSD := Lib.hid (HK.out.seen.drop K hKb)
              have HXX := Lib.hid HCZ.out
              have HDL : Hid ((bs.drop K).length = bs.length - K) := by show _ = _; rw [List.length_drop]
              go_wp2_with fail
              refine HXX.out.mono ?_
              rintro e w2 ⟨rfl, hr2, hb2⟩
              have HK2 := Lib.hid (HK.out.on hR HSD.out hr2 hb2)
              clear hr2 hb2
              go_wp2
              go_roundw
              case rel => exact ⟨j + 1, cr - K, some ⟨b, off + K, none⟩, (bs.drop K, false), by omega, by omega, by show (bs.drop K).length ≤ 500; rw [HDL.out]; omega, by go_num, by show _ = Value.slice _ (bs.drop K).length _; rw [HDL.out], rfl, HK2⟩
              case measure => simp [intOf]; omega
      · have hK0 : K = 0 := by have := hbb.out; simpa using this.symm
        obtain ⟨hT1, hT2⟩ := HT0.out hK0
        obtain ⟨hN1, hN2⟩ := HNN0.out hK0
        obtain ⟨hC1, hC2⟩ := HC0.out hK0 z
        have HCZ := Lib.hid (HCX.out z)
        rw [hT1, hT2] at HTX
        rw [hN2] at HNX
        rw [hC1, hC2] at HCZ
        clear hT1 hT2 hN2 hC1 hC2 HT0 HNN0 HC0 HOK HNN1 HRD HCX hbb
        subst hN1
        rcases zz with z1 | ⟨z1, z0⟩ | ⟨z1, z0⟩
        · skip
          go_wp2_with fail
          refine HTX.out.mono ?_
          rintro e w2 ⟨at2, ct2, rfl, hst, hr2, hb2⟩
          have hq : (convert 22 9 (.slice at2 0 ct2)).run Try.prog w2 = .ok (.string ⟨#[]⟩) w2 := str_of hst
          have HK2 := Lib.hid (HK.out.gone hR hr2 hb2)
          clear hst hr2 hb2
          go_wp2
          go_roundw
          case rel => exact ⟨j + 1, 0, none, ([], true), by omega, by omega, by simp, by go_num, rfl, rfl, HK2⟩
          case measure => simp [intOf]; omega
        · skip
          go_wp2_with fail
          refine (HNX.out).mono ?_
          rintro e w2 ⟨rfl, hr2, hb2⟩
          have HK2 := Lib.hid (HK.out.gone hR hr2 hb2)
          clear hr2 hb2
          go_wp2
          go_roundw
          case rel => exact ⟨j + 1, 0, none, ([], true), by omega, by omega, by simp, by go_num, rfl, rfl, HK2⟩
          case measure => simp [intOf]; omega
        · skip
          go_wp2_with fail
          refine (HCZ.out).mono ?_
          rintro e w2 ⟨rfl, hr2, hb2⟩
          have HK2 := Lib.hid (HK.out.gone hR hr2 hb2)
          clear hr2 hb2
          go_wp2
          go_roundw
          case rel => exact ⟨j + 1, 0, none, ([], true), by omega, by omega, by simp, by go_num, rfl, rfl, HK2⟩
          case measure => simp [intOf]; omega
    · have tz : (decide ((j : Int) < (len1 : Int)) = false ∧ decide (j < len1) = false) ∨ (decide ((j : Int) < (len1 : Int)) = true ∧ decide (j < len1) = true ∧ decide ((j : Int) < 60) = false) := by
        by_cases e : j < len1
        · right; simp; omega
        · left; simp; omega
      clear hlt
      have hrd := HK.out.rdr
      have HBK := Lib.hid HK.out.below
      have HRK := Lib.hid hrd
      clear hrd HK
      cases bd
      · obtain ⟨v, hv1, hv2⟩ : ∃ v : Bool, Pk.fin (bs, false) = v ∧ ((bs.length : Int) == 0) = v := ⟨_, rfl, by rw [Bool.eq_iff_iff]; unfold Pk.fin; simp⟩
        have HV1 := Lib.hid hv1
        clear hv1
        rcases tz with ⟨z1, z2⟩ | ⟨z1, z2, z3⟩
        all_goals
          go_wp2_with fail
          refine (awake5 _).mono ?_
          rintro e w2 ⟨rfl, hb2⟩
          have HR2 := Lib.hid (HRK.out.below hb2)
          have HB2 := Lib.hid (HBK.out.trans (hb2.mono HBK.out.size))
          clear hb2
          go_wp2_with fail
          refine (rEnd_any R _ _ HR2.out).mono ?_
          rintro e w' ⟨rfl, rfl⟩
          rw [HV1.out]
          go_wp2
          go_ret
          exact ⟨rfl, HB2.out⟩
      · have HV1 : Hid (Pk.fin (bs, true) = false) := by show _ = _; unfold Pk.fin; simp
        rcases tz with ⟨z1, z2⟩ | ⟨z1, z2, z3⟩
        all_goals
          go_wp2_with fail
          refine (awake5 _).mono ?_
          rintro e w2 ⟨rfl, hb2⟩
          have HR2 := Lib.hid (HRK.out.below hb2)
          have HB2 := Lib.hid (HBK.out.trans (hb2.mono HBK.out.size))
          clear hb2
          go_wp2_with fail
          refine (rEnd_any R _ _ HR2.out).mono ?_
          rintro e w' ⟨rfl, rfl⟩
          rw [HV1.out]
          go_wp2
          go_ret
          exact ⟨rfl, HB2.out⟩

end Go.Proofs.Ytplgeicpchgffaa
