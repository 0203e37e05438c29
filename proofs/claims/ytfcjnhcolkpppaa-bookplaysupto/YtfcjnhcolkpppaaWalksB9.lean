/-
  The law's frame, small and all; the reference's SameRecs.
-/
import Derived.Test.YtfcjnhcolkpppaaWalksB8
import Derived.Test.YtfcjnhcolkpppaaWalksB7
import Derived.Deep.DeepCutAuto
namespace Go.Proofs.Ytfcjnhcolkpppaa
open Go.RowKit


theorem own_nilC (w : World) (base B : Nat) (h : base ≤ w.heap.size) (hB : w.heap.size = B) : OwnB (w.alloc (.cells #[] 5)) base B 0 [] := by
  subst hB
  exact ownB_lit w base [] #[] rfl bytes_nil h (by unfold maxLen; simp)

theorem own_be4 (w : World) (base B n : Nat) (v0 : Int) (h : base ≤ w.heap.size) (hB : w.heap.size = B) (h0 : v0 = ((n / 16777216 % 256 : Nat) : Int)) :
    OwnB (w.alloc (.cells #[Value.int IntKind.u8 v0, Value.int IntKind.u8 ((n : Int) / 65536 % 256), Value.int IntKind.u8 ((n : Int) / 256 % 256), Value.int IntKind.u8 ((n : Int) % 256)] 5)) base B 4 (be4 n) := by
  subst hB h0
  refine ownB_lit w base (be4 n) _ ?_ (be4_bytes n) h (by rw [be4_len]; decide)
  simp [vals, be4]

set_option maxRecDepth 100000 in
set_option maxHeartbeats 2000000 in
theorem lawFrame_any (ma ea : Option Addr) (mc ec lm le : Nat) (r : Pr) (w : World) (h : RecAt w ma mc ea ec r) (hlm : r.mem.length = lm) (hle : r.ents.length = le) (hs : Med r) :
    Calls Try.prog 10 #[.agg #[.int .i64 r.kind, .int .i64 r.epoch, .slice ma lm mc, .int .i64 r.pos, .int .i64 r.last, .slice ea le ec]] w (RetO w (frm (encR r))) := by
  have E0 : Hid (Ext w (w.alloc (.cells #[.int .i64 r.kind, .int .i64 r.epoch, .slice ma lm mc, .int .i64 r.pos, .int .i64 r.last, .slice ea le ec] 36))) := below_one w _
  have HR := Lib.hid (h.below E0.out)
  have HLM := Lib.hid hlm
  have HLE := Lib.hid hle
  have HM := Lib.hid hs
  have HML := Lib.hid (med_len hs)
  clear h hlm hle hs
  go_enter Try.func10, Try.ntmps10
  go_wp2_with fail
  refine (record_med _ _ _ _ _ _ r _ HR.out HLM.out HLE.out HM.out).mono ?_
  rintro e w1 ⟨g1, c1, rfl, ho1, hb1⟩
  have E1 := Lib.hid (E0.out.trans hb1)
  have HX1 := Lib.hid ho1.seenAt
  have hg1 := ho1.lt.2
  obtain ⟨q, hq⟩ : ∃ q, (encR r).length = q := ⟨_, rfl⟩
  have HQ := Lib.hid hq
  have hq2 : q ≤ 50000500 := by rw [← hq]; exact HML.out
  rw [hq]
  clear ho1 hb1 HR HLM HLE HM HML hq
  generalize encR r = C at *
  have hw1 : w.heap.size ≤ w1.heap.size := E1.out.size
  have e1 : (q : Int) % 4294967296 = (q : Int) := by omega
  have HH2 := Lib.hid (own_be4 w1 w.heap.size w1.heap.size q ((q : Int) / 16777216) hw1 rfl (by omega))
  have hb2 := below_one w1 (.cells #[Value.int IntKind.u8 ((q : Int) / 16777216), Value.int IntKind.u8 ((q : Int) / 65536 % 256), Value.int IntKind.u8 ((q : Int) / 256 % 256), Value.int IntKind.u8 ((q : Int) % 256)] 5)
  have E2 := Lib.hid (E1.out.trans hb2)
  have HX2 := Lib.hid (HX1.out.below hb2)
  go_upto_region 4 with fail
  generalize w1.alloc (.cells #[Value.int IntKind.u8 ((q : Int) / 16777216), Value.int IntKind.u8 ((q : Int) / 65536 % 256), Value.int IntKind.u8 ((q : Int) / 256 % 256), Value.int IntKind.u8 ((q : Int) % 256)] 5) = w2 at *
  generalize w1.heap.size = B1 at *
  have hb3 := below_one w2 (.cells #[] 5)
  have E3 := Lib.hid (E2.out.trans hb3)
  have HX3 := Lib.hid (HX2.out.below hb3)
  have HH3 := Lib.hid (HH2.out.chg (gs := []) (Chg.of_below hb3) (by simp))
  have HN3 := Lib.hid (own_nilC w2 w.heap.size w2.heap.size E2.out.size rfl)
  have hlt2 : Hid (B1 < w2.heap.size) := HH2.out.lt.2
  have HSC : Hid (g1 < B1 ∧ B1 < w2.heap.size) := ⟨hg1, HH2.out.lt.2⟩
  clear hb2 hb3 HX1 HX2 HH2
  have hB1 : g1 < w2.heap.size := by
    have h1 := HSC.out.1
    have h2 := HSC.out.2
    omega
  go_wp2_with (first
    | (at_builtin; refine wpList_appB rfl (.tmp 24) (.tmp 25) rfl w.heap.size w2.heap.size 0 [] (be4 q) rfl HN3.out _ 4 rfl HH3.out.seenAt (by simp [be4]) E3.out.size ?_; intro g4 c4 w4 ho4 chg4 hg4; rw [List.nil_append] at ho4 ⊢; rw [be4_len]; have HO4 := Lib.hid ho4; have E4 : Hid (Ext w w4) := (chg4.below E3.out E3.out.size (by simp; exact E2.out.size)); have HX4 := Lib.hid (HX3.out.chg chg4 (by intro b off e; cases e; simp; omega)); have HH4 := Lib.hid (HH3.out.chg chg4 (by have := HH3.out.lt; have := hlt2.out; simp; omega)); have HG4 : Hid (w2.heap.size ≤ g4) := (by rcases hg4 with h | h; exact Nat.le_of_eq h.symm; exact Nat.le_trans (below_one w2 (.cells #[] 5)).size h); clear ho4 chg4 hg4)
    | (at_builtin; refine wpList_appB rfl (.tmp 26) (.tmp 27) rfl w.heap.size g4 c4 (be4 q) C rfl HO4.out _ c1 (by rw [HQ.out]; rfl) HX4.out (by rw [HQ.out, be4_len]; omega) E4.out.size ?_; intro g5 c5 w5 ho5 chg5 hg5; rw [show (be4 q ++ C).length = 4 + q by rw [List.length_append, be4_len, HQ.out]]; have HO5 := Lib.hid ho5; have E5 : Hid (Ext w w5) := (chg5.below E4.out E4.out.size (by have := HO4.out.lt.1; simp; omega)); have HX5 := Lib.hid (HX4.out.chg chg5 (by intro b off e; cases e; have h1 := HG4.out; have h2 := hB1; simp; omega)); have HH5 := Lib.hid (HH4.out.chg chg5 (by have h1 := HSC.out.2; have h2 := HG4.out; simp; omega)); clear ho5 chg5 hg5))
  have HL5 : Hid ((be4 q ++ C).length = 4 + q) := by show _ = _; rw [List.length_append, be4_len, HQ.out]
  refine (refOf_any _ _ _ (be4 q ++ C) _ HL5.out (by omega) HO5.out.seenAt).mono ?_
  rintro e w6 ⟨rfl, hb6⟩
  have hS : Crc.sum (be4 q ++ C) < 4294967296 := Crc.sum_lt _ HO5.out.byte
  have HFE : Hid ((be4 q ++ be4 (Crc.sum (be4 q ++ C))) ++ C = frm C) := by show _ = _; unfold frm; rw [HQ.out, List.append_assoc]
  have HX6 := Lib.hid (HX5.out.below hb6)
  have HH6 := Lib.hid (HH5.out.chg (gs := []) (Chg.of_below hb6) (by simp))
  have E6 := Lib.hid (E5.out.trans hb6)
  clear hb6 HX5 HH5 E5 HO5 hlt2 HX4 HX3 HH3 HH4 HN3 E3 E4
  generalize Crc.sum (be4 q ++ C) = S at *
  have e7 : (S : Int) / 16777216 = ((S / 16777216 % 256 : Nat) : Int) := by omega
  have HL7 := Lib.hid (own_be4 w6 w6.heap.size w6.heap.size S ((S : Int) / 16777216) (Nat.le_refl _) rfl e7)
  have hb7 := below_one w6 (.cells #[Value.int IntKind.u8 ((S : Int) / 16777216), Value.int IntKind.u8 ((S : Int) / 65536 % 256), Value.int IntKind.u8 ((S : Int) / 256 % 256), Value.int IntKind.u8 ((S : Int) % 256)] 5)
  have HX7 := Lib.hid (HX6.out.below hb7)
  have HH7 := Lib.hid (HH6.out.chg (gs := []) (Chg.of_below hb7) (by simp))
  have E7 := Lib.hid (E6.out.trans hb7)
  have HB6 : Hid (g1 < B1 ∧ B1 < w6.heap.size) := ⟨HSC.out.1, HH6.out.lt.2⟩
  clear hb7 e7 HX6 HH6
  go_wp2_with (first
    | (at_builtin; refine wpList_appB rfl (.tmp 30) (.tmp 42) rfl w.heap.size B1 4 (be4 q) (be4 S) rfl HH7.out _ 4 rfl HL7.out.seenAt (by simp [be4]) E7.out.size ?_; intro g8 c8 w8 ho8 chg8 hg8; rw [show (be4 q ++ be4 S).length = 8 from rfl]; have HO8 := Lib.hid ho8; have E8 : Hid (Ext w w8) := (chg8.below E7.out E7.out.size (by simp; exact HH7.out.lt.1)); have HX8 := Lib.hid (HX7.out.chg chg8 (by intro b off e; cases e; have h1 := HB6.out; simp; omega)); clear ho8 chg8 hg8)
    | (at_builtin; refine wpList_appB rfl (.tmp 43) (.tmp 44) rfl w.heap.size g8 c8 (be4 q ++ be4 S) C rfl HO8.out _ c1 (by rw [HQ.out]; rfl) HX8.out (by rw [HQ.out]; simp [be4]; omega) E8.out.size ?_; intro g9 c9 w9 ho9 chg9 hg9; rw [HFE.out] at ho9 ⊢; have HR9 : Hid (RetO w (frm C) (.returned (.slice (some ⟨g9, 0, none⟩) (frm C).length c9)) w9) := ⟨g9, c9, rfl, ho9, (chg9.below E8.out E8.out.size (by have := HO8.out.lt.1; simp; omega))⟩; clear ho9 chg9 hg9; generalize (frm C).length = q9 at *))
  go_ret
  exact HR9.out

set_option maxHeartbeats 1000000 in
theorem small_any (ma ea : Option Addr) (mc ec lm le : Nat) (k ep p la : Int) (w : World) :
    Calls Try.prog 9 #[.agg #[.int .i64 k, .int .i64 ep, .slice ma lm mc, .int .i64 p, .int .i64 la, .slice ea le ec]] w fun e w' => e = .returned (.bool (decide (le ≤ 6) && decide (lm ≤ 40))) ∧ Below w.heap.size w w' := by
  by_cases h : le ≤ 6
  · by_cases h2 : lm ≤ 40
    · have HF : Hid (true = (decide (le ≤ 6) && decide (lm ≤ 40))) := by show _ = _; simp [h, h2]
      have d1 : decide ((le : Int) ≤ 6) = true := by simp; omega
      have d2 : decide ((lm : Int) ≤ 40) = true := by simp; omega
      go_enter Try.func9, Try.ntmps9
      go_wp2
      go_ret
      exact ⟨ret_boolean HF.out, below_one _ _⟩
    · have HF : Hid (false = (decide (le ≤ 6) && decide (lm ≤ 40))) := by show _ = _; simp [h2]
      have d1 : decide ((le : Int) ≤ 6) = true := by simp; omega
      have d2 : decide ((lm : Int) ≤ 40) = false := by simp; omega
      go_enter Try.func9, Try.ntmps9
      go_wp2
      go_ret
      exact ⟨ret_boolean HF.out, below_one _ _⟩
  · have HF : Hid (false = (decide (le ≤ 6) && decide (lm ≤ 40))) := by show _ = _; simp [h]
    have d1 : decide ((le : Int) ≤ 6) = false := by simp; omega
    go_enter Try.func9, Try.ntmps9
    go_wp2
    go_ret
    exact ⟨ret_boolean HF.out, below_one _ _⟩

/-- The cells of a record. -/
structure R6 (w : World) (b o : Nat) (r : Pr) (ma : Option Addr) (lm mc : Nat) (ea : Option Addr) (le ec : Nat) : Prop where
  c0 : w.cell? ⟨b, o, none⟩ = some (.int .i64 r.kind)
  c1 : w.cell? ⟨b, o + 1, none⟩ = some (.int .i64 r.epoch)
  c2 : w.cell? ⟨b, o + 2, none⟩ = some (.slice ma lm mc)
  c3 : w.cell? ⟨b, o + 3, none⟩ = some (.int .i64 r.pos)
  c4 : w.cell? ⟨b, o + 4, none⟩ = some (.int .i64 r.last)
  c5 : w.cell? ⟨b, o + 5, none⟩ = some (.slice ea le ec)

theorem R6.below {w w' : World} {b o : Nat} {r : Pr} {ma ea : Option Addr} {lm mc le ec : Nat} (h : R6 w b o r ma lm mc ea le ec) (hb : Below w.heap.size w w') : R6 w' b o r ma lm mc ea le ec :=
  ⟨cell_later hb h.c0, cell_later hb h.c1, cell_later hb h.c2, cell_later hb h.c3, cell_later hb h.c4, cell_later hb h.c5⟩

/-- One of the records: its cells, and what is read of them. -/
theorem RcA.one {w : World} {a : Option Addr} {cap : Nat} {xs : List Rl} (h : RcA w a cap xs) (k : Nat) (hk : k < xs.length) :
    ∃ b off, a = some ⟨b, off, none⟩ ∧ R6 w b (off + k * 6) (xs.getD k rl0).r (xs.getD k rl0).ma (xs.getD k rl0).r.mem.length (xs.getD k rl0).mc (xs.getD k rl0).ea (xs.getD k rl0).r.ents.length (xs.getD k rl0).ec ∧ (xs.getD k rl0).ok w := by
  obtain ⟨b, off, e, hc⟩ := h.el k hk
  exact ⟨b, off, e, ⟨hc 0 _ rfl, hc 1 _ rfl, hc 2 _ rfl, hc 3 _ rfl, hc 4 _ rfl, hc 5 _ rfl⟩, (h.rob _ (getD_mem xs k rl0 hk)).now⟩

def encX (x : Rl) : List Nat := encR x.r

theorem frms_len_take (cs : List (List Nat)) (k : Nat) : (frms (cs.take k)).length ≤ (frms cs).length := encL_take frm cs k

theorem frms_take_succ (xs : List Rl) (k : Nat) (h : k < xs.length) : frms ((xs.take (k + 1)).map encX) = frms ((xs.take k).map encX) ++ frm (encR (xs.getD k rl0).r) := by
  rw [map_snoc_take encX xs rl0 k h, frms_snoc]
  rfl

set_option maxRecDepth 100000 in
set_option maxHeartbeats 2000000 in
theorem lawAll_any (a : Option Addr) (cap l : Nat) (xs : List Rl) (w : World) (hl : xs.length = l) (h : RcA w a cap xs) (hm : ∀ x ∈ xs, Med x.r) (hf : (frms (xs.map encX)).length ≤ 900000000) :
    Calls Try.prog 11 #[.slice a l cap] w (RetO w (frms (xs.map encX))) := by
  have HX := Lib.hid h
  have HL := Lib.hid hl
  have HMD := Lib.hid hm
  have HFL := Lib.hid hf
  have hlm : l ≤ maxLen := by have := h.le; have := h.max; omega
  unfold maxLen at hlm
  have HN0 : Hid (OwnB (w.alloc (.cells #[] 5)) w.heap.size w.heap.size 0 []) := own_nilC w w.heap.size w.heap.size (Nat.le_refl _) rfl
  have E0 : Hid (Ext w (w.alloc (.cells #[] 5))) := below_one w _
  clear h hl hm hf
  go_enter Try.func11, Try.ntmps11
  go_wp2
  go_loopw [3, 4] (fun v i ws => ∃ (k g c q : Nat), k ≤ l ∧ i = .int .i64 k ∧ v = .slice (some ⟨g, 0, none⟩) q c ∧ Hid ((frms ((xs.take k).map encX)).length = q) ∧ Hid (OwnB ws w.heap.size g c (frms ((xs.take k).map encX))) ∧ Hid (Ext w ws)) (fun _ i _ => l - (intOf i).toNat)
  case atStart => exact ⟨0, w.heap.size, 0, 0, Nat.zero_le _, rfl, rfl, rfl, HN0, E0⟩
  case round =>
    obtain ⟨k, g, c, q, hk, rfl, rfl, HQ, HO, HB⟩ := hrel
    by_cases hlt : k < l
    · have j0 : (0 : Int) ≤ (k : Int) := by omega
      have j1 : (k : Int) < (l : Int) := by omega
      obtain ⟨b, off, rfl, hc, hok⟩ := (HX.out.below HB.out).one k (by rw [HL.out]; exact hlt)
      have HMM := Lib.hid (HMD.out _ (getD_mem xs k rl0 (by rw [HL.out]; exact hlt)))
      have HN := Lib.hid (frms_take_succ xs k (by rw [HL.out]; exact hlt))
      have HLT : Hid ((frms ((xs.take (k + 1)).map encX)).length ≤ 900000000) := by
        have h1 := frms_len_take (xs.map encX) (k + 1)
        rw [← List.map_take] at h1
        exact Nat.le_trans h1 HFL.out
      have HOK : Hid (RecAt _ (xs.getD k rl0).ma (xs.getD k rl0).mc (xs.getD k rl0).ea (xs.getD k rl0).ec (xs.getD k rl0).r) := hok
      have c0 := hc.c0
      have c1 := hc.c1
      have c2 := hc.c2
      have c3 := hc.c3
      have c4 := hc.c4
      have c5 := hc.c5
      clear hc hok
      generalize xs.getD k rl0 = x at *
      obtain ⟨r, ma, mc, ea, ec, lo, hi⟩ := x
      dsimp only at HMM HN HOK c0 c1 c2 c3 c4 c5
      obtain ⟨lm, hlm⟩ : ∃ q, r.mem.length = q := ⟨_, rfl⟩
      obtain ⟨le, hle⟩ : ∃ q, r.ents.length = q := ⟨_, rfl⟩
      rw [hlm] at c2
      rw [hle] at c5
      have HLM := Lib.hid hlm
      have HLE := Lib.hid hle
      clear hlm hle
      go_wp2_with fail
      refine (lawFrame_any _ _ _ _ _ _ r _ HOK.out HLM.out HLE.out HMM.out).mono ?_
      rintro e w7 ⟨g7, c7, rfl, ho7, hb7⟩
      have HB7 := Lib.hid (HB.out.trans hb7)
      have HO7 := Lib.hid (HO.out.chg (gs := []) (Chg.of_below hb7) (by simp))
      have HS7 := Lib.hid ho7.seenAt
      have hgl := HO.out.lt.1
      obtain ⟨q7, hq7⟩ : ∃ q, (frm (encR r)).length = q := ⟨_, rfl⟩
      rw [hq7]
      have HQ7 := Lib.hid hq7
      have hsum : q + q7 ≤ 900000000 := by have := HLT.out; rw [HN.out, List.length_append, HQ.out, hq7] at this; exact this
      clear ho7 hb7 hq7
      have HQ8 : Hid ((frms ((xs.take (k + 1)).map encX)).length = q + q7) := by show _ = _; rw [HN.out, List.length_append, HQ.out, HQ7.out]
      go_wp2_with (at_builtin; refine wpList_appB rfl (.tmp 12) (.tmp 17) rfl w.heap.size g c (frms ((xs.take k).map encX)) (frm (encR r)) (by rw [HQ.out]; rfl) HO7.out _ c7 (by rw [HQ7.out]; rfl) HS7.out (by rw [HQ.out, HQ7.out]; omega) HB7.out.size ?_; intro g8 c8 w8 ho8 chg8 hg8; rw [← HN.out] at ho8 ⊢; rw [HQ8.out]; have HB8 : Hid (Ext w w8) := (chg8.below HB7.out HB7.out.size (by simp; exact HO.out.lt.1)); have HO8 := Lib.hid ho8; clear ho8 chg8 hg8)
      go_roundw
      case rel => exact ⟨k + 1, g8, c8, q + q7, by omega, by go_num, rfl, HQ8, HO8, HB8⟩
      case measure => simp [intOf]; omega
    · obtain rfl : k = l := by omega
      have HT : Hid (xs.take k = xs) := List.take_of_length_le (by rw [HL.out]; omega)
      rw [HT.out] at HO HQ
      have HF : Hid (RetO w (frms (xs.map encX)) (.returned (.slice (some ⟨g, 0, none⟩) q c)) wr) := ⟨g, c, by rw [HQ.out], HO.out, HB.out⟩
      go_wp2
      go_ret
      exact HF.out

end Go.Proofs.Ytfcjnhcolkpppaa
