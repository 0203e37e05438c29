/-
  The walk of the law KeysFinds.
-/
import Derived.Test.YtdifnipjmnbojaaWalksN1
import Derived.Test.YtdifnipjmnbojaaLaw102
import Derived.Test.YtdifnipjmnbojaaLaw104
import Derived.Deep.DeepCutAuto
namespace Go.Proofs.Ytdifnipjmnbojaa
open Go.RowKit






set_option maxRecDepth 100000 in
set_option maxHeartbeats 8000000 in
theorem keysFinds_walk (a0 : Option Addr) (len0 cap0 : Nat) (m0 : List Pe) (a1 : ByteArray) (a2 : Int) (w : World) (w0 : m0.length = len0 ∧ EnsAt w a0 cap0 m0 ∧ SmallK m0) :
    Calls Try.prog 3 #[.slice a0 len0 cap0, .string a1, .int .i64 a2] w fun e w' => e = .returned (.bool true) ∧ Below w.heap.size w w' := by
  obtain ⟨hl, he, hs⟩ := w0
  have hm : len0 ≤ cap0 ∧ cap0 ≤ maxLen := ⟨by have := he.le; omega, he.max⟩
  unfold maxLen at hm
  have HL := Lib.hid hl
  have HE := Lib.hid he
  have HS0 := Lib.hid hs
  clear hl he hs
  go_enter Try.func3, Try.ntmps3
  go_upto_if 13 with fail
  go_cut [0] (fun s wx => ∃ n : Nat, s = .slice a0 n cap0 ∧ n ≤ 60 ∧ Hid ((m0.take n).length = n) ∧ wx = w)
  case first =>
    by_cases h : 60 < len0
    · have d : decide ((60 : Int) < (len0 : Int)) = true := by simp; omega
      have s1 := slice_toE a0 len0 cap0 60 (by omega) w
      have s2 := slice_toE' a0 len0 cap0 60 (by omega) w
      have HT : Hid ((m0.take 60).length = 60) := by show _ = _; rw [List.length_take, HL.out]; omega
      go_wp2_with fail
      go_meet
      exact ⟨60, rfl, Nat.le_refl _, HT, rfl⟩
    · have d : decide ((60 : Int) < (len0 : Int)) = false := by simp; omega
      have HT : Hid ((m0.take len0).length = len0) := by show _ = _; rw [List.length_take, HL.out]; omega
      go_wp2_with fail
      go_meet
      exact ⟨len0, rfl, by omega, HT, rfl⟩
  case rest =>
  obtain ⟨l, rfl, hl, HT, hw⟩ := hcut
  obtain rfl := hw.symm
  clear hw
  have HE1 := Lib.hid (HE.out.take l)
  have HS : Hid (SmallK (m0.take l)) := fun e he => HS0.out e (List.mem_of_mem_take he)
  clear HE HL hm HS0
  generalize m0.take l = es at *
  have F6 := Lib.hid (ansF_ok HE1.out.wf HS.out (fndU es a2 a1.data.toList l))
  go_wp2_with fail
  refine (find_any a0 cap0 l es a1 a2 w HT.out HE1.out (fun e he => (HS.out.big e he).2) (by omega)).mono ?_
  intro e w4 h1
  have h1' := h1.one
  clear h1
  have HAF := Lib.hid (show ansF es (fndU es a2 a1.data.toList l) = ansF es (fndU es a2 a1.data.toList l) from rfl)
  generalize hA : ansF es (fndU es a2 a1.data.toList l) = A at *
  have HA := Lib.hid hA
  clear hA HAF
  obtain ⟨p, pb⟩ := A
  dsimp only at h1' F6
  obtain ⟨lo, cc, rfl, hs4, hb4⟩ := h1'
  have hbl := below_one w4 (.cells #[.int .i64 p.seq, .int .i64 p.client, .int .i64 p.num, .int .i64 p.op, .string (strB p.key), .int .i64 p.size, .int .u32 (p.sum : Int), .slice lo p.frag.length cc] 26)
  have HO5 := Lib.hid ((HE1.out.below hb4).below hbl)
  have HB5 := Lib.hid (hb4.trans (hbl.mono hb4.size))
  have HP5 := Lib.hid (hs4.below hbl)
  have HQ5 : Hid (Bx (w4.alloc (.cells #[.int .i64 p.seq, .int .i64 p.client, .int .i64 p.num, .int .i64 p.op, .string (strB p.key), .int .i64 p.size, .int .u32 (p.sum : Int), .slice lo p.frag.length cc] 26)) w4.heap.size 26 #[.int .i64 p.seq, .int .i64 p.client, .int .i64 p.num, .int .i64 p.op, .string (strB p.key), .int .i64 p.size, .int .u32 (p.sum : Int), .slice lo p.frag.length cc]) := bx_new8 _ _ _
  clear hs4 hb4 hbl HE1
  go_wp2_with fail
  generalize (w4.alloc (.cells #[.int .i64 p.seq, .int .i64 p.client, .int .i64 p.num, .int .i64 p.op, .string (strB p.key), .int .i64 p.size, .int .u32 (p.sum : Int), .slice lo p.frag.length cc] 26)) = w5 at *
  refine (refFind_any a0 cap0 l es a1 a2 w5 HT.out HO5.out).mono ?_
  rw [HA.out]
  dsimp only
  rintro e w6 ⟨lo2, cc2, rfl, hs6, hb6⟩
  have hbl := below_one w6 (.cells #[.int .i64 p.seq, .int .i64 p.client, .int .i64 p.num, .int .i64 p.op, .string (strB p.key), .int .i64 p.size, .int .u32 (p.sum : Int), .slice lo2 p.frag.length cc2] 26)
  have HO7 := Lib.hid ((HO5.out.below hb6).below hbl)
  have HB7 := Lib.hid (HB5.out.trans ((hb6.trans (hbl.mono hb6.size)).mono HB5.out.size))
  have HP7 := Lib.hid ((HP5.out.below hb6).below hbl)
  have HR7 := Lib.hid (hs6.below hbl)
  have HQ7 := Lib.hid ((HQ5.out.chg (gs := []) (Chg.of_below hb6) (by simp)).chg (gs := []) (Chg.of_below hbl) (by simp))
  have HT7 : Hid (Bx (w6.alloc (.cells #[.int .i64 p.seq, .int .i64 p.client, .int .i64 p.num, .int .i64 p.op, .string (strB p.key), .int .i64 p.size, .int .u32 (p.sum : Int), .slice lo2 p.frag.length cc2] 26)) w6.heap.size 26 #[.int .i64 p.seq, .int .i64 p.client, .int .i64 p.num, .int .i64 p.op, .string (strB p.key), .int .i64 p.size, .int .u32 (p.sum : Int), .slice lo2 p.frag.length cc2]) := bx_new8 _ _ _
  clear hs6 hb6 hbl HO5 HB5 HP5 HQ5
  go_wp2_with fail
  generalize (w6.alloc (.cells #[.int .i64 p.seq, .int .i64 p.client, .int .i64 p.num, .int .i64 p.op, .string (strB p.key), .int .i64 p.size, .int .u32 (p.sum : Int), .slice lo2 p.frag.length cc2] 26)) = w7 at *
  refine (awake10 w7).mono ?_
  rintro e w8 ⟨rfl, hb8⟩
  have HO8 := Lib.hid (HO7.out.below hb8)
  have HB8 := Lib.hid (HB7.out.trans (hb8.mono HB7.out.size))
  have HP8 := Lib.hid (HP7.out.below hb8)
  have HR8 := Lib.hid (HR7.out.below hb8)
  have HQ8 := Lib.hid (HQ7.out.chg (gs := []) (Chg.of_below hb8) (by simp))
  have HT8 := Lib.hid (HT7.out.chg (gs := []) (Chg.of_below hb8) (by simp))
  clear hb8 HO7 HB7 HP7 HR7 HQ7 HT7
  have e0 := HQ8.out.cell 0 (.int .i64 p.seq) rfl
  have e1 := HQ8.out.cell 1 (.int .i64 p.client) rfl
  have e2 := HQ8.out.cell 2 (.int .i64 p.num) rfl
  have e3 := HQ8.out.cell 3 (.int .i64 p.op) rfl
  have e4 := HQ8.out.cell 4 (.string (strB p.key)) rfl
  have e5 := HQ8.out.cell 5 (.int .i64 p.size) rfl
  have e6 := HQ8.out.cell 6 (.int .u32 (p.sum : Int)) rfl
  have e7 := HQ8.out.cell 7 (.slice lo p.frag.length cc) rfl
  have y0 := HT8.out.cell 0 (.int .i64 p.seq) rfl
  have y1 := HT8.out.cell 1 (.int .i64 p.client) rfl
  have y2 := HT8.out.cell 2 (.int .i64 p.num) rfl
  have y3 := HT8.out.cell 3 (.int .i64 p.op) rfl
  have y4 := HT8.out.cell 4 (.string (strB p.key)) rfl
  have y5 := HT8.out.cell 5 (.int .i64 p.size) rfl
  have y6 := HT8.out.cell 6 (.int .u32 (p.sum : Int)) rfl
  have y7 := HT8.out.cell 7 (.slice lo2 p.frag.length cc2) rfl
  have dn : (pb == pb) = true := by simp
  go_wp2_with fail
  refine (refSame_any p p lo lo2 cc cc2 w8 F6.out.1 F6.out.1 HP8.out HR8.out F6.out.2.1 F6.out.2.2 F6.out.2.1 F6.out.2.2).mono ?_
  rw [decide_eq_true rfl]
  rintro e w9 ⟨rfl, hb9⟩
  have HO9 := Lib.hid (HO8.out.below hb9)
  have HB9 := Lib.hid (HB8.out.trans (hb9.mono HB8.out.size))
  clear e0 e1 e2 e3 e4 e5 e6 e7
  clear y0 y1 y2 y3 y4 y5 y6 y7
  clear hb9 HO8 HB8 HP8 HR8 HQ8 HT8
  go_wp2_with fail
  refine (names_any a0 cap0 l es a2 w9 HT.out HO9.out (fun e he => (HS.out.big e he).1) (by omega)).mono ?_
  rintro e w14 ⟨b14, c14, ss, rfl, -, hn14, ho14, hb14⟩
  have HN14 := Lib.hid hn14
  have HO14 := Lib.hid (HO9.out.below hb14)
  have HS14 := Lib.hid (strs_own ho14 rfl)
  have HB14 := Lib.hid (HB9.out.trans (hb14.mono HB9.out.size))
  clear hn14 ho14 hb14 HO9 HB9
  obtain ⟨n4, hn4⟩ : ∃ n, ss.length = n := ⟨_, rfl⟩
  rw [hn4]
  have HN4 := Lib.hid hn4
  clear hn4
  go_wp2_with fail
  refine (refNames_any a0 cap0 l es a2 w14 HT.out HO14.out (by omega)).mono ?_
  rintro e w15 ⟨b15, c15, ts, rfl, -, hn15, ho15, hb15⟩
  obtain rfl := HN14.out.one hn15
  rw [HN4.out]
  have HS15 := Lib.hid (strs_own ho15 rfl)
  have HT15 := Lib.hid (HS14.out.below hb15)
  have HB15 := Lib.hid (HB14.out.trans (hb15.mono HB14.out.size))
  clear hn15 ho15 hb15 HO14 HS14 HB14
  go_wp2_with fail
  refine (texts_any b14 b15 c14 c15 n4 n4 ss ss w15 HN4.out HN4.out HT15.out HS15.out).mono ?_
  rw [decide_eq_true rfl]
  rintro e w16 ⟨rfl, hb16⟩
  have HB16 := Lib.hid (HB15.out.trans (hb16.mono HB15.out.size))
  clear hb16
  go_wp2
  go_ret
  exact ⟨rfl, HB16.out⟩

end Go.Proofs.Ytdifnipjmnbojaa
