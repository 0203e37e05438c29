/-
  The laws' fixed fact, of layer 5.
-/
import Derived.Test.YtjefjlalebpodaaWalksV2
import Derived.Lib.SlBytesConst
namespace Go.Proofs.Ytjefjlalebpodaa
open Go.RowKit

theorem n65 : Pk.num (-65) = [129, 1] := by decide +kernel

theorem txt_ab : Pk.txt [97, 98] = [4, 97, 98] := by decide +kernel

theorem a_num (w : World) : Calls Try.prog 14 #[.slice none 0 0, .int .i64 (-65)] w (RetB w [129, 1]) :=
  (packNum_any none 0 0 [] (-65) w rfl (by omega) (SeenAt.nil (Nat.zero_le _)) (by omega) (by omega)).mono fun e w' h => by rw [n65] at h; exact h

theorem bytes_ab : Gf.Bytes [97, 98] := by intro c hc; simp at hc; omega
theorem bytes_no : Gf.Bytes [128, 0] := by intro c hc; simp at hc; omega

theorem a_text (a : Option Addr) (c : Nat) (w : World) (h : SeenAt w a c [129, 1]) :
    Calls Try.prog 16 #[.slice a 2 c, .slice (some ⟨w.heap.size, 0, none⟩) 2 2] (w.alloc (.cells #[.int .u8 97, .int .u8 98] 5 (2, 3))) (RetB w [129, 1, 4, 97, 98]) :=
  (packText_any a (some ⟨w.heap.size, 0, none⟩) c 2 2 2 [129, 1] [97, 98] _ rfl rfl (by omega) (by omega) (h.lit _) (seen_lit w [97, 98] #[.int .u8 97, .int .u8 98] (2, 3) rfl bytes_ab (by decide))).mono fun e w' h' => by
    rw [txt_ab] at h'
    exact h'.later (below_one w _) rfl

theorem s0_num : Pk.vN ([129, 1, 4, 97, 98], false) = -65 ∧ Pk.nN ([129, 1, 4, 97, 98], false) = ([4, 97, 98], false) := by
  have := Pk.vN_num (-65) [4, 97, 98] false (by omega) (by omega)
  rw [n65] at this
  exact this

theorem s0_txt : Pk.vT ([4, 97, 98], false) = [97, 98] ∧ Pk.nT ([4, 97, 98], false) = ([], false) := by
  have := Pk.vT_txt [97, 98] [] false (by simp)
  rw [txt_ab] at this
  exact this

theorem s0_no : Pk.rd [128, 0] = (0, 0) := by decide +kernel

theorem a_rnum (R : Nat) (w : World) (h : Rdr w R ([129, 1, 4, 97, 98], false)) : Calls Try.prog 19 #[.pointer (some ⟨R, 0, none⟩)] w (RInt w R (-65) ([4, 97, 98], false)) :=
  (rNum_any R _ w h).mono fun e w' h' => by rw [s0_num.1, s0_num.2] at h'; exact h'

theorem a_rtext (R : Nat) (w : World) (h : Rdr w R ([4, 97, 98], false)) : Calls Try.prog 20 #[.pointer (some ⟨R, 0, none⟩)] w (RTxt w R [97, 98] ([], false)) :=
  (rText_any R _ w h (by simp)).mono fun e w' h' => by rw [s0_txt.1, s0_txt.2] at h'; exact h'

theorem a_rno (R : Nat) (w : World) (h : Rdr w R ([128, 0], false)) : Calls Try.prog 19 #[.pointer (some ⟨R, 0, none⟩)] w (RInt w R 0 ([], true)) :=
  (rNum_any R _ w h).mono fun e w' h' => by
    rw [Pk.vN_none _ (by show (Pk.rd [128, 0]).2 = 0; rw [s0_no]), Pk.nN_none _ (by show (Pk.rd [128, 0]).2 = 0; rw [s0_no])] at h'
    exact h'

theorem a_end (R : Nat) (w : World) (h : Rdr w R ([], false)) : Calls Try.prog 21 #[.pointer (some ⟨R, 0, none⟩)] w fun e w' => e = .returned (.bool true) ∧ w = w' := rEnd_any R _ w h

theorem a_endno (R : Nat) (w : World) (h : Rdr w R ([], true)) : Calls Try.prog 21 #[.pointer (some ⟨R, 0, none⟩)] w fun e w' => e = .returned (.bool false) ∧ w = w' := rEnd_any R _ w h

theorem strB_5 : strB [129, 1, 4, 97, 98] = ⟨#[129, 1, 4, 97, 98]⟩ := rfl
theorem strB_ab : strB [97, 98] = ⟨#[97, 98]⟩ := rfl

set_option maxRecDepth 100000 in
set_option maxHeartbeats 1000000 in
theorem awake5 (w : World) :
    Calls Try.prog 13 #[] w fun e w' => e = .returned (.bool true) ∧ Below w.heap.size w w' := by
  have kc := fun (w : World) (C : Array Value) (n c : Nat) => Lib.run_convert_bytes_const (P := Try.prog) w 22 5 C n c Try.underlying22 Try.underlying5
  go_enter Try.func13, Try.ntmps13
  go_wp2_with fail
  refine (a_num _).mono ?_
  rintro e w1 ⟨a1, c1, rfl, hs1, _, hb1⟩
  have HS1 := Lib.hid hs1
  have HB1 := Lib.hid hb1
  clear hs1 hb1
  go_wp2_with fail
  refine (a_text _ _ _ HS1.out).mono ?_
  rintro e w2 ⟨a2, c2, rfl, hs2, hn2, hb2⟩
  have HS2 := Lib.hid hs2
  have HB2 := Lib.hid (HB1.out.trans (hb2.mono HB1.out.size))
  clear hs2 hb2 HS1 HB1
  go_wp2_with fail
  refine (new_any _ _ _ _ _ rfl (by simp) HS2.out).mono ?_
  rintro e w3 ⟨R, rfl, hR, hr3, hb3⟩
  have HR3 := Lib.hid hr3
  have HS3 := Lib.hid (HS2.out.below hb3)
  have HB3 := Lib.hid (HB2.out.trans (hb3.mono HB2.out.size))
  have hRw : w.heap.size ≤ R := Nat.le_trans HB2.out.size hR
  have HA : Hid (Off R a2) := by
    rcases hn2 with e | ⟨b, off, e, _, h2⟩
    · exact .inl e
    · exact .inr ⟨b, off, e, by omega⟩
  clear hr3 hb3 HS2 HB2 hR hn2
  go_wp2_with fail
  refine (a_rnum R _ HR3.out).mono ?_
  rintro e w4 ⟨rfl, hr4, hb4⟩
  have HR4 := Lib.hid hr4
  have HS4 := Lib.hid (HS3.out.apart hb4 HA.out)
  have HB4 := Lib.hid (hb4.below HB3.out HB3.out.size (by simpa using hRw))
  clear hr4 hb4 HR3 HS3 HB3
  go_wp2_with fail
  refine (a_rtext R _ HR4.out).mono ?_
  rintro e w5 ⟨a5, c5, rfl, hs5, hr5, hb5⟩
  have HR5 := Lib.hid hr5
  have HT5 := Lib.hid hs5
  have HS5 := Lib.hid (HS4.out.apart hb5 HA.out)
  have HB5 := Lib.hid (hb5.below HB4.out HB4.out.size (by simpa using hRw))
  clear hr5 hb5 hs5 HR4 HS4 HB4
  have HL := Lib.hid (ownB_lit w5 w5.heap.size [128, 0] #[.int .u8 128, .int .u8 0] rfl bytes_no (Nat.le_refl _) (by decide)).seenAt
  go_wp2_with fail
  refine (new_any _ _ _ [128, 0] _ rfl (by simp) HL.out).mono ?_
  rintro e w6 ⟨X, rfl, hX, hx6, hb6⟩
  have hbb := (below_one w5 (Obj.cells #[Value.int IntKind.u8 128, Value.int IntKind.u8 0] 5)).trans (hb6.mono (by simp))
  have hX5 : w5.heap.size ≤ X := by simp at hX; omega
  have HX6 := Lib.hid hx6
  have HB6 := Lib.hid hbb
  clear hx6 hb6 hX HL hbb
  go_wp2_with fail
  refine (a_rno X _ HX6.out).mono ?_
  rintro e w7 ⟨rfl, hx7, hb7⟩
  have hbb := hb7.below HB6.out HB6.out.size (by simpa using hX5)
  have HX7 := Lib.hid hx7
  have HR7 := Lib.hid (HR5.out.below hbb)
  have hst1 : (convert 22 9 (.slice a2 5 c2)).run Try.prog w7 = .ok (.string ⟨#[129, 1, 4, 97, 98]⟩) w7 := by
    have := str_of (HS5.out.below hbb)
    rw [strB_5] at this
    exact this
  have hst2 : (convert 22 9 (.slice a5 2 c5)).run Try.prog w7 = .ok (.string ⟨#[97, 98]⟩) w7 := by
    have := str_of (HT5.out.below hbb)
    rw [strB_ab] at this
    exact this
  have HB7 := Lib.hid (HB5.out.trans (hbb.mono HB5.out.size))
  clear hx7 hb7 hbb HX6 HB6
  go_wp2_with fail
  refine (a_end R _ HR7.out).mono ?_
  rintro e w' ⟨rfl, rfl⟩
  go_wp2_with fail
  refine (a_endno X _ HX7.out).mono ?_
  rintro e w' ⟨rfl, rfl⟩
  go_wp2
  go_ret
  exact ⟨rfl, HB7.out⟩

end Go.Proofs.Ytjefjlalebpodaa
