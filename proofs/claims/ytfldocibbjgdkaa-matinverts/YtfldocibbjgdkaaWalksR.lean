/-
  What the law's rank does.
-/
import Derived.Test.YtfldocibbjgdkaaLawChain
import Derived.Test.YtfldocibbjgdkaaMatR
import Derived.Test.YtfldocibbjgdkaaQTail
namespace Go.Proofs.Ytfldocibbjgdkaa
open Go.RowKit Go.BigFrame

theorem ctM_self (m : List (List Nat)) (h : m.length ≤ 12) (hr : ∀ i, (m.getD i []).length ≤ 12) : ctM m = m := by
  refine getD_congr _ _ [] (by rw [ctM_len]; omega) fun i hi => ?_
  rw [ctM_len] at hi
  rw [ctM_get m i (by omega), List.take_of_length_le (hr i)]

/-- A number is handed back; if it is n, then m x = 0 for x = 0 alone. -/
def RankPost (w : World) (n : Nat) (m : List (List Nat)) (e : Ending) (w' : World) : Prop :=
  Below w.heap.size w w' ∧ ∃ r : Nat, r ≤ n ∧ e = .returned (.int .i64 (r : Int)) ∧ (r = n → ∀ x : Nat → Nat, (∀ j, x j < 256) → (∀ i, i < n → Mt.dot n (m.getD i []) x = 0) → ∀ j, j < n → x j = 0)

theorem power_254 (a : Nat) (w : World) (ha : a < 256) :
    Calls Try.prog 30 #[.int .u8 (a : Int), .int .i64 254] w fun e w' => e = .returned (.int .u8 ((Gf.ipow a 254 : Nat) : Int)) ∧ w = w' := power_any a 254 w ha (by omega)

set_option maxRecDepth 100000 in
set_option maxHeartbeats 8000000 in
theorem rank_any (va : Option Addr) (vc n : Nat) (m : List (List Nat)) (w : World) (hG : GridAt w va vc m) (sm : Mt.Sq n m) (hn : n ≤ 12) :
    Calls Try.prog 17 #[.slice va n vc] w (RankPost w n m) := by
  have HG := Lib.hid hG
  have HSM := Lib.hid sm
  have HCT : Hid (ctM m = m) := ctM_self m (by rw [sm.len]; exact hn) fun i => by
    by_cases hi : i < n
    · rw [sm.row i hi]; exact hn
    · rw [show m.getD i [] = [] by rw [List.getD_eq_getElem?_getD, List.getElem?_eq_none (by rw [sm.len]; omega)]; rfl]; simp
  clear hG sm
  go_enter Try.func17, Try.ntmps17
  go_wp2_with fail
  refine (cut_at _ _ n m _ HG.out HSM.out.len).mono ?_
  rw [HCT.out, HSM.out.len]
  rintro e w1 ⟨_, G, C, g1, c1, rfl, hA1, hb1⟩
  have HA1 := Lib.hid hA1
  have HB1 := Lib.hid hb1
  clear hA1 hb1
  go_wp2
  go_loopw [3, 4, 5, 6, 7, 8] (fun s3 s4 _ _ _ _ ws => ∃ (r col : Nat) (g c : Nat → Nat) (U : List (List Nat)), r ≤ col ∧ col ≤ n ∧ s3 = .int .i64 r ∧ s4 = .int .i64 col ∧ Hid (OwnM ws w.heap.size G C g c U) ∧ Hid (Mt.Sq n U) ∧ Hid (r = col → Mt.KerEq n m U ∧ Mt.Tri n col U) ∧ Hid (Below w.heap.size w ws)) (fun _ s4 _ _ _ _ _ => n - (intOf s4).toNat)
  case atStart => exact ⟨0, 0, g1, c1, m, Nat.le_refl _, Nat.zero_le _, rfl, rfl, HA1, HSM, fun _ => ⟨Mt.KerEq.refl _ _, fun j hj => by omega⟩, HB1⟩
  case round =>
    obtain ⟨r, col, g, c, U, hrc, hcn, rfl, rfl, hO, hS, hI, hb⟩ := hrel
    by_cases hlt : col < n
    · generalize wr = wo at *
      go_wp2
      go_loop [5] (fun s5 => ∃ p : Nat, r ≤ p ∧ p ≤ n ∧ s5 = .int .i64 p) (fun s5 => n - (intOf s5).toNat)
      case atStart => exact ⟨r, Nat.le_refl _, by omega, rfl⟩
      case round =>
        obtain ⟨p, hrp, hpn, rfl⟩ := hrel
        by_cases hlp : p < n
        · have hpU : p < U.length := by rw [hS.out.len]; exact hlp
          have cp := hO.out.cell p hpU
          rw [hS.out.row p hlp] at cp
          have cx : wo.cell? ⟨g p, col, none⟩ = some (.int .u8 ((Mt.en U p col : Nat) : Int)) := (hO.out.row p hpU).cell col (by rw [hS.out.row p hlp]; exact hlt)
          clear hpU
          by_cases hx : Mt.en U p col = 0
          · rw [hx] at cx
            clear hx
            go_wp2
            go_round
            case rel => exact ⟨p + 1, by omega, by omega, by go_num⟩
            case measure => simp [intOf]; omega
          · have HX := Lib.hid hx
            have t : (((Mt.en U p col : Nat) : Int) == 0) = false := by simp; exact hx
            have t2 : ((p : Int) == (n : Int)) = false := by simp; omega
            clear hx
            have HXX := Lib.hid HX.out
            generalize hxx : Mt.en U p col = x at cx t HX
            clear hxx
            have hrn : r < n := by omega
            have hrU : r < U.length := by rw [hS.out.len]; exact hrn
            have hpU : p < U.length := by rw [hS.out.len]; exact hlp
            have cr := hO.out.cell r hrU
            rw [hS.out.row r hrn] at cr
            have fr := hO.out.frozen r
            have sw1 := hO.out.swap r p hrU hpU
            rw [hS.out.row r hrn, hS.out.row p hlp] at sw1
            have st1 := World.ownsRow.stored hO.out.outer r (.slice (some ⟨g p, 0, none⟩) n (c p))
            have c2 : ∃ v, (wo.setCell ⟨G, r, none⟩ (.slice (some ⟨g p, 0, none⟩) n (c p))).cell? ⟨G, p, none⟩ = some v := by
              rw [World.ownsRow.cellAt st1.1 p (by rw [hS.out.len]; omega)]
              exact ⟨_, List.getElem?_eq_getElem (by rw [List.length_set, rvals_len, hS.out.len]; exact hlp)⟩
            obtain ⟨v2, c2⟩ := c2
            have f2 := World.ownsRow.frozenAt st1.1 p
            have HSW := Lib.hid sw1
            clear sw1 st1 hrU hpU
            have r0 : (0 : Int) ≤ (r : Int) := by omega
            have r1 : (r : Int) < (n : Int) := by omega
            have p0 : (0 : Int) ≤ (p : Int) := by omega
            have p1 : (p : Int) < (n : Int) := by omega
            go_wp2
            go_region
            have HS1 := Lib.hid (And.intro (HSW.out.1.chg (gs := []) (Chg.refl _ _).drew (by simp) (by simp)) HSW.out.2.drew)
            clear HSW c2 f2 cr fr cp cx t t2
            generalize World.drew _ = w2 at HS1 ⊢
            have HO2 := Lib.hid HS1.out.1
            have HB2 := Lib.hid (HS1.out.2.below hb.out hb.out.size (by simp; exact hO.out.lt.1))
            have HS2 := Lib.hid (hS.out.swp r p hrn hlp)
            have HRK : Hid (r + 1 = col + 1 → Mt.KerEq n m (Mt.rk (Mt.swp [] U r p) r col (n - (r + 1))) ∧ Mt.Tri n (col + 1) (Mt.rk (Mt.swp [] U r p) r col (n - (r + 1)))) := fun e => by
              obtain rfl : r = col := by omega
              exact Mt.rank_step n r p m U hS.out hlt hlp hrp (hI.out rfl).1 (hI.out rfl).2 HXX.out
            clear HS1 HX HXX hO hS hI hb
            generalize (fun k => g (sw r p k)) = g2 at *
            generalize (fun k => c (sw r p k)) = c2 at *
            generalize Mt.swp [] U r p = V at *
            go_wp2
            go_loopw [6, 7, 8] (fun s6 _ _ ws => ∃ t : Nat, r + 1 + t ≤ n ∧ s6 = .int .i64 ((r + 1 + t : Nat) : Int) ∧ Hid (OwnM ws w.heap.size G C g2 c2 (Mt.rk V r col t)) ∧ Hid (Below w.heap.size w ws)) (fun s6 _ _ _ => n - (intOf s6).toNat)
            case atStart => exact ⟨0, by omega, by go_num, HO2, HB2⟩
            case round =>
              obtain ⟨t, htn, rfl, hO, hb⟩ := hrel
              have HSA := Lib.hid (Mt.rk_sq n r col V HS2.out hrn t htn)
              have HRT : Hid (Mt.rk V r col (t + 1) = (Mt.rk V r col t).set (r + 1 + t) (Mt.addMul ((Mt.rk V r col t).getD (r + 1 + t) []) ((Mt.rk V r col t).getD r []) (Mt.cof (Mt.rk V r col t) r col (r + 1 + t)))) := rfl
              have HND : Hid (r + 1 + t = n → n - (r + 1) = t) := fun e => by omega
              by_cases hli : r + 1 + t < n
              · obtain ⟨i, hi⟩ : ∃ i, i = r + 1 + t := ⟨_, rfl⟩
                rw [← hi] at HRT ⊢
                have hin : i < n := by omega
                have hri : r ≠ i := by omega
                have HI := Lib.hid hi
                clear hi hli
                have HF : Hid (Mt.cof (Mt.rk V r col t) r col i = Gf.gm (Mt.en (Mt.rk V r col t) i col) (Gf.ipow (Mt.en (Mt.rk V r col t) r col) 254)) := rfl
                generalize Mt.rk V r col t = A at *
                have hiA : i < A.length := by rw [HSA.out.len]; exact hin
                have hrA : r < A.length := by rw [HSA.out.len]; exact hrn
                have cI := hO.out.cell i hiA
                have cR := hO.out.cell r hrA
                rw [HSA.out.row i hin] at cI
                rw [HSA.out.row r hrn] at cR
                have cIc : wr.cell? ⟨g2 i, col, none⟩ = some (.int .u8 ((Mt.en A i col : Nat) : Int)) := (hO.out.row i hiA).cell col (by rw [HSA.out.row i hin]; exact hlt)
                have cRc : wr.cell? ⟨g2 r, col, none⟩ = some (.int .u8 ((Mt.en A r col : Nat) : Int)) := (hO.out.row r hrA).cell col (by rw [HSA.out.row r hrn]; exact hlt)
                have b1 := HSA.out.byte.lt i col
                have b2 := HSA.out.byte.lt r col
                have b3 := Gf.ipow_lt (Mt.en A r col) 254
                have b4 := Mt.cof_lt HSA.out.byte r col i
                have HIA := Lib.hid hiA
                have HRA := Lib.hid hrA
                clear hiA hrA
                have i0 : (0 : Int) ≤ (i : Int) := by omega
                have i1 : (i : Int) < (n : Int) := by omega
                have l0 : (0 : Int) ≤ (col : Int) := by omega
                have l1 : (col : Int) < (n : Int) := by omega
                generalize Mt.cof A r col i = f at *
                generalize Mt.en A i col = x at *
                generalize Mt.en A r col = y at *
                go_wp2
                go_quiet (first | (go_at_call 30; exact quiet_left' (power_254 _ _ (by omega))) | (go_at_call 26; exact quiet_left' (ref_gm _ _ _ (by omega) (by omega))))
                rw [← HF.out]
                have HO3 := Lib.hid (hO.out.chg (gs := []) ((Chg.refl _ _).drewN nq) (by simp) (by simp))
                have HB3 := Lib.hid (hb.out.trans ((below_drewN _ nq).mono hb.out.size))
                clear cI cR cIc cRc hO hb HF
                generalize wr.drewN nq = w3 at *
                go_wp2
                go_loopw [8] (fun s8 ws => ∃ k : Nat, k ≤ n ∧ s8 = .int .i64 k ∧ Hid (OwnM ws w.heap.size G C g2 c2 (A.set i (Mt.addMul (A.getD i []) ((A.getD r []).take k) f))) ∧ Hid (Below w.heap.size w ws)) (fun s8 _ => n - (intOf s8).toNat)
                case atStart => exact ⟨0, Nat.zero_le _, rfl, by rw [List.take_zero, Mt.addMul_nil, set_same A i _ [] HIA.out rfl]; exact HO3, HB3⟩
                case round =>
                  obtain ⟨k, hk, rfl, hO, hb⟩ := hrel
                  have hlA : (A.set i (Mt.addMul (A.getD i []) ((A.getD r []).take k) f)).length = n := by rw [List.length_set, HSA.out.len]
                  have hrI : (A.set i (Mt.addMul (A.getD i []) ((A.getD r []).take k) f)).getD i [] = Mt.addMul (A.getD i []) ((A.getD r []).take k) f := getD_set_eq _ _ _ _ HIA.out
                  have hrR : (A.set i (Mt.addMul (A.getD i []) ((A.getD r []).take k) f)).getD r [] = A.getD r [] := getD_set_ne _ _ _ _ _ hri
                  by_cases hlk : k < n
                  · have cI := hO.out.cell i (by rw [hlA]; exact hin)
                    have cR := hO.out.cell r (by rw [hlA]; exact hrn)
                    have oI := hO.out.row i (by rw [hlA]; exact hin)
                    have oR := hO.out.row r (by rw [hlA]; exact hrn)
                    rw [hrI] at cI oI
                    rw [hrR] at cR oR
                    rw [Mt.addMul_len, HSA.out.row i hin] at cI
                    rw [HSA.out.row r hrn] at cR
                    have cIk := oI.cell k (by rw [Mt.addMul_len, HSA.out.row i hin]; exact hlk)
                    have cRk := oR.cell k (by rw [HSA.out.row r hrn]; exact hlk)
                    have fI := oI.frozen k
                    have d1 := bytes_get _ k oI.byte
                    have d2 := bytes_get _ k oR.byte
                    have d3 := Gf.gm_lt ((A.getD r []).getD k 0) f d2
                    have HX := Lib.hid (u8_xor_nat _ _ d1 d3)
                    have HCM := Lib.hid (Gf.gm_comm f _ b4 d2)
                    have d4 := Gf.x_lt _ _ d1 d3
                    have HAS := Lib.hid (Mt.addMul_set (A.getD i []) (A.getD r []) f k (by rw [HSA.out.row r hrn]; exact hlk) (by rw [HSA.out.row i hin]; exact hlk))
                    have HST := Lib.hid (oI.storedN k _ d4)
                    have HLA := Lib.hid hlA
                    have HRI := Lib.hid hrI
                    have hgl := oI.lt.1
                    clear oI oR hlA hrI hrR
                    generalize (A.getD r []).getD k 0 = d at *
                    generalize (Mt.addMul (A.getD i []) ((A.getD r []).take k) f).getD k 0 = y' at *
                    have k0 : (0 : Int) ≤ (k : Int) := by omega
                    have k1 : (k : Int) < (n : Int) := by omega
                    go_wp2
                    refine wp_region_quiet_tail 18 (by kernel_rfl) (by kernel_rfl) ?_
                    simp only [List.take_succ_cons, List.take_zero, List.drop_succ_cons, List.drop_zero]
                    repeat (go_big_quiet_step ((go_at_call 26; exact quiet_left' (ref_gm _ _ _ (by omega) (by omega)))))
                    refine wpQuiet_nil ?_
                    intro _ hw'
                    obtain ⟨nq, hw''⟩ := hw'
                    subst hw''
                    go_wp2
                    go_round
                    case rel =>
                      rw [HCM.out, HX.out]
                      refine ⟨k + 1, by omega, by go_num, ?_, (HST.out nq).2.below hb.out hb.out.size (by simp; exact hgl)⟩
                      rw [HAS.out, ← set_set A i (Mt.addMul (A.getD i []) ((A.getD r []).take k) f)]
                      exact hO.out.setRow i (by rw [HLA.out]; exact hin) _ (HST.out nq).2 (HST.out nq).1 (by rw [List.length_set, HRI.out])
                    case measure => simp [intOf]; omega
                  · obtain rfl : k = n := by omega
                    have HTA : Hid ((A.getD r []).take k = A.getD r []) := List.take_of_length_le (by rw [HSA.out.row r hrn]; exact Nat.le_refl _)
                    rw [HTA.out, ← HRT.out] at hO
                    clear hlA hrI hrR
                    go_wp2
                    go_round
                    case rel => exact ⟨t + 1, by have := HI.out; omega, by have := HI.out; go_num, hO, hb⟩
                    case measure => simp [intOf]; omega
              · have hend : r + 1 + t = n := by omega
                have HTT := Lib.hid (HND.out hend)
                have HRK2 := HRK
                rw [HTT.out] at HRK2
                clear hli
                have hend' : ((r + 1 + t : Nat) : Int) = (n : Int) := by omega
                rw [hend']
                clear hend hend'
                go_wp2
                go_round
                case rel => exact ⟨r + 1, col + 1, g2, c2, _, by omega, by omega, by go_num, by go_num, hO, HSA, HRK2, hb⟩
                case measure => simp [intOf]; omega
        · obtain rfl : p = n := by omega
          go_wp2
          go_round
          case rel => exact ⟨r, col + 1, g, c, U, by omega, by omega, rfl, by go_num, hO, hS, fun e => by omega, hb⟩
          case measure => simp [intOf]; omega
    · obtain rfl : col = n := by omega
      go_wp2
      go_ret
      exact ⟨hb.out, r, hrc, rfl, fun e x hx h => Mt.tri_ker _ U hS.out.byte (hI.out e).2 x hx (((hI.out e).1 x hx).mp h)⟩

end Go.Proofs.Ytfldocibbjgdkaa
