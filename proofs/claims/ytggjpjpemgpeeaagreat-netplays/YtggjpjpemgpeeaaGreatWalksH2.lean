/-
  The bytes of messages, by the program: packedFrag, packedKey, packedSource, fields.List of them, checksum; what Encode puts together.
-/
import Derived.Test.YtggjpjpemgpeeaaGreatWalksH1
import Derived.Test.YtggjpjpemgpeeaaGreatWalksU1
import Derived.Test.YtggjpjpemgpeeaaGreatBk
import Derived.Test.YtggjpjpemgpeeaaGreatArgE
import Derived.Test.YtggjpjpemgpeeaaGreatExt3
namespace Go.Proofs.YtggjpjpemgpeeaaGreat
open Go.RowKit


def encFr (f : Fr) : List Nat := Pk.num f.pos ++ Pk.txt f.data
def encSr (s : Int × Int) : List Nat := Pk.num s.1 ++ Pk.num s.2

theorem encFr_small (f : Fr) (h : f.data.length ≤ 256) : (encFr f).length ≤ 352 := by
  have := (Pk.num_len f.pos).2
  have := (Pk.txt_len f.data).2
  unfold encFr
  rw [List.length_append]
  omega

theorem encSr_small (s : Int × Int) : (encSr s).length ≤ 352 := by
  have := (Pk.num_len s.1).2
  have := (Pk.num_len s.2).2
  unfold encSr
  rw [List.length_append]
  omega

set_option maxRecDepth 100000 in
set_option maxHeartbeats 1000000 in
theorem packedFrag_own (p : Fr) (w : World) (hp : I64 p.pos) (hl : p.data.length ≤ 10000000) (hs : SeenAt w p.loc p.cap p.data) :
    Calls Tryz.prog 37 #[.agg #[.int .i64 p.pos, .slice p.loc p.data.length p.cap]] w (RetO w (encFr p)) := by
  have HB0 := Lib.hid ((below_one w (.cells #[.int .i64 p.pos, .slice p.loc p.data.length p.cap] 70)).drew)
  have HX0 : Hid (Box (w.alloc (.cells #[.int .i64 p.pos, .slice p.loc p.data.length p.cap] 70)).drew w.heap.size #[.int .i64 p.pos, .slice p.loc p.data.length p.cap]) := (box_new w _ _ _ rfl).below ((Below.refl _ _).drew)
  have HS0 := Lib.hid (hs.below HB0.out)
  have HL : Hid (∃ q, p.data.length = q) := ⟨_, rfl⟩
  obtain ⟨lf, hlf⟩ := HL.out
  have HLF := Lib.hid hlf
  have HEE : Hid (encs [p.pos] ++ Pk.txt p.data = encFr p) := by show _ = _; simp [encs, encFr]
  have HLE : Hid ((encs [p.pos]).length ≤ 10) := Nat.le_trans (encs_len _) (by simp)
  rw [hlf] at HB0 HX0 HS0 hl ⊢
  clear hs hlf HL
  go_enter Tryz.func37, Tryz.ntmps37
  go_wp2_with fail
  refine wp_region_ext (by kernel_rfl) ?_
  generalize (w.alloc (.cells #[.int .i64 p.pos, .slice p.loc lf p.cap] 70)).drew = w0 at *
  have HI := Lib.hid (ints_lit w0 [p.pos] #[.int .i64 p.pos] 1 w0.heap.size rfl rfl rfl (by intro z hz; simp at hz; subst hz; exact hp) (by unfold maxLen; omega))
  refine wpAnyH_tk (i := 0) 3 (v := ?_) rfl rfl (by kernel_rfl) (by kernel_rfl) (by kernel_rfl) (by rfl) (fun wq hwq => ?_) ?_
  rotate_left
  · (go_simp <;> with_reducible rfl)
  simp only [List.setIfInBounds_toArray, List.set_cons_zero, List.set_cons_succ]
  refine wpAnyH_tk (i := 1) 4 (v := ?_) rfl rfl (by kernel_rfl) (by kernel_rfl) (by kernel_rfl) (by rfl) (fun wq hwq => ?_) ?_
  rotate_left
  · (obtain ⟨x0, x1⟩ := box2 ((HX0.out).below hwq); go_simp <;> with_reducible rfl)
  simp only [List.setIfInBounds_toArray, List.set_cons_zero, List.set_cons_succ]
  refine wpAnyH_tk (i := 4) 7 (v := ?_) rfl rfl (by kernel_rfl) (by kernel_rfl) (by kernel_rfl) (by rfl) (fun wq hwq => ?_) ?_
  rotate_left
  · (go_simp <;> with_reducible rfl)
  simp only [List.setIfInBounds_toArray, List.set_cons_zero, List.set_cons_succ]
  refine wpAnyH_tk (i := 5) 8 (v := ?_) rfl rfl (by kernel_rfl) (by kernel_rfl) (by kernel_rfl) (by rfl) (fun wq hwq => ?_) ?_
  rotate_left
  · (obtain ⟨x0, x1⟩ := box2 ((HX0.out).below hwq); go_simp <;> with_reducible rfl)
  simp only [List.setIfInBounds_toArray, List.set_cons_zero, List.set_cons_succ]
  refine wpAnyH_one (i := 2) rfl (by kernel_rfl) (by rfl) (fun K hK => ?_)
  go_simp
  refine hK.out _ _ (below_one w0 _) ?_
  clear hK K
  refine wpAnyH_one (i := 3) rfl (by kernel_rfl) (by rfl) (fun K hK => ?_)
  go_simp
  refine (packedNumbers_own _ _ 1 _ _ rfl HI.out (by omega) (by omega)).mono ?_
  rintro e w1 ⟨g1, c1, rfl, ho1, hb1⟩
  have hb01 := (below_one w0 _).trans (hb1.mono (by simp))
  have HB1 := Lib.hid (HB0.out.trans (hb01.mono HB0.out.size))
  have HS1 := Lib.hid ho1.seenAt
  have HS01 := Lib.hid (HS0.out.below hb01)
  clear ho1 hb01 HI HS0
  generalize encs [p.pos] = A at *
  generalize hq : A.length = q at *
  have HQ := Lib.hid hq
  clear hq
  refine hK.out _ _ hb1 ?_
  clear hK K
  clear hb1
  refine wpAnyH_one (i := 6) rfl (by kernel_rfl) (by rfl) (fun K hK => ?_)
  go_simp
  refine (packText_own _ _ _ _ _ _ A p.data _ HQ.out HLF.out (by have := HLE.out; omega) (by omega) HS1.out HS01.out).mono ?_
  intro e w2 h2
  have HR := Lib.hid (h2.later HB1.out HEE.out)
  obtain ⟨g2, c2, rfl, _, hb2⟩ := h2
  rw [HEE.out] at HR ⊢
  generalize (encFr p).length = q2 at *
  refine hK.out _ _ hb2 ?_
  clear hK K
  refine wpAnyH_tk (i := 7) 2 (v := ?_) rfl rfl (by kernel_rfl) (by kernel_rfl) (by kernel_rfl) (by rfl) (fun wq hwq => ?_) ?_
  rotate_left
  · (go_simp <;> with_reducible rfl)
  simp only [List.setIfInBounds_toArray, List.set_cons_zero, List.set_cons_succ]
  refine wpAnyH_done (by kernel_rfl) ?_ _
  refine NoPanic.normal ?_
  go_wp2
  go_ret
  exact HR.out

set_option maxRecDepth 100000 in
set_option maxHeartbeats 1000000 in
theorem packedKey_own (p : List Nat) (w : World) (hB : Gf.Bytes p) (hl : p.length ≤ 10000000) :
    Calls Tryz.prog 39 #[.string (strB p)] w (RetO w (Pk.txt p)) := by
  obtain ⟨c2, w2, hcv, hs2, hb2⟩ := conv_str w p hB (by omega)
  have HS2 := Lib.hid hs2
  have HB2 := Lib.hid hb2
  clear hs2 hb2
  generalize hq2 : p.length = lk at *
  have HQ2 := Lib.hid hq2
  clear hq2
  go_enter Tryz.func39, Tryz.ntmps39
  go_wp2_with fail
  refine (packText_own none _ 0 _ 0 _ [] p _ rfl HQ2.out (by omega) (by omega) (SeenAt.nil (Nat.zero_le _)) HS2.out).mono ?_
  intro x w4 h4
  have HR := Lib.hid (h4.later HB2.out (List.nil_append (Pk.txt p)))
  obtain ⟨g4, c4, rfl, _⟩ := h4
  rw [List.nil_append] at HR ⊢
  generalize (Pk.txt p).length = q4 at *
  go_wp2
  go_ret
  exact HR.out

set_option maxRecDepth 100000 in
set_option maxHeartbeats 1000000 in
theorem packedSource_own (p : Int × Int) (w : World) (h1 : I64 p.1) (h2 : I64 p.2) :
    Calls Tryz.prog 41 #[.agg #[.int .i64 p.1, .int .i64 p.2]] w (RetO w (encSr p)) := by
  have HB0 : Hid (Below w.heap.size w (w.alloc (.cells #[.int .i64 p.1, .int .i64 p.2] 72))) := below_one w _
  have HI := Lib.hid (ints_lit (w.alloc (.cells #[.int .i64 p.1, .int .i64 p.2] 72)) [p.1, p.2] #[.int .i64 p.1, .int .i64 p.2] 2 (w.heap.size + 1) (by simp) rfl rfl (by intro z hz; simp at hz; rcases hz with rfl | rfl <;> assumption) (by unfold maxLen; omega))
  have HEE : Hid (encs [p.1, p.2] = encSr p) := by show _ = _; simp [encs, encSr]
  go_enter Tryz.func41, Tryz.ntmps41
  go_wp2_with fail
  refine (packedNumbers_own _ _ 2 _ _ rfl HI.out (by omega) (by omega)).mono ?_
  intro x w4 h4
  have HR := Lib.hid (h4.later (HB0.out.trans ((below_one _ _).mono (by simp))) HEE.out)
  obtain ⟨g4, c4, rfl, _⟩ := h4
  rw [HEE.out] at HR ⊢
  generalize (encSr p).length = q4 at *
  go_wp2
  go_ret
  exact HR.out

set_option maxRecDepth 100000 in
set_option maxHeartbeats 1000000 in
theorem list_frg (a : Option Addr) (cap l : Nat) (xs : List Fr) (w : World) (hl : xs.length = l) (h : FrsAt w a cap xs) (hm : l ≤ 4096) (hs : ∀ x ∈ xs, x.data.length ≤ 256) :
    Calls Tryz.prog 36 #[.slice a l cap, .func (.func 37) #[] #[]] w (RetO w (encs [(l : Int)] ++ encL encFr xs)) := by
  have HE := Lib.hid h
  have HL := Lib.hid hl
  have HS := Lib.hid hs
  have HEL : Hid ((encL encFr xs).length ≤ 1441792) := by
    have := encL_len encFr 352 xs fun x hx => encFr_small x (hs x hx)
    show _ ≤ _
    omega
  have HI := Lib.hid (ints_lit w [(l : Int)] #[.int .i64 (l : Int)] 1 w.heap.size rfl rfl rfl (by intro z hz; simp at hz; subst hz; exact ⟨by omega, by omega⟩) (by unfold maxLen; omega))
  clear h hl hs
  go_enter Tryz.func36, Tryz.ntmps36
  go_wp2_with fail
  refine (packedNumbers_own _ _ 1 _ _ rfl HI.out (by omega) (by omega)).mono ?_
  rintro e w1 ⟨g1, c1, rfl, ho1, hb1⟩
  have HO1 : Hid (OwnB w1 w.heap.size g1 c1 (encs [(l : Int)] ++ encL encFr (xs.take 0))) := by
    show OwnB _ _ _ _ _
    rw [List.take_zero, encL_nil, List.append_nil]
    exact ho1.base (by simp)
  have HB1 := Lib.hid ((below_one w _).trans (hb1.mono (by simp)))
  have HL1 : Hid ((encs [(l : Int)]).length ≤ 10) := Nat.le_trans (encs_len _) (by simp)
  clear ho1 hb1 HI
  generalize encs [(l : Int)] = A at *
  generalize hq : A.length = q at *
  have HQ := Lib.hid hq
  clear hq
  go_wp2
  go_loopw [5, 7, 14] (fun v _ i ws => ∃ (k g c : Nat), k ≤ l ∧ i = .int .i64 k ∧ v = .slice (some ⟨g, 0, none⟩) (A ++ encL encFr (xs.take k)).length c ∧ Hid (OwnB ws w.heap.size g c (A ++ encL encFr (xs.take k))) ∧ Hid (Below w.heap.size w ws)) (fun _ _ i _ => l - (intOf i).toNat)
  case atStart => exact ⟨0, g1, c1, Nat.zero_le _, rfl, by rw [List.take_zero, encL_nil, List.append_nil, HQ.out], HO1, HB1⟩
  case round =>
    obtain ⟨k, g, c, hk, rfl, rfl, HO, HB⟩ := hrel
    by_cases hlt : k < l
    · obtain ⟨b, off, rfl, hc0, hc1, hcs⟩ := (HE.out.below HB.out).el k (by rw [HL.out]; exact hlt)
      have HWF := Lib.hid (wf_i64 (HE.out.wf _ (getD_mem xs k fr0 (by rw [HL.out]; exact hlt))))
      have HSF := Lib.hid (hcs.below (below_one wr (.cells #[.int .i64 (xs.getD k fr0).pos, .slice (xs.getD k fr0).loc (xs.getD k fr0).data.length (xs.getD k fr0).cap] 70)))
      clear hcs
      have HSL := Lib.hid (HS.out _ (getD_mem xs k fr0 (by rw [HL.out]; exact hlt)))
      have HN : Hid (A ++ encL encFr (xs.take (k + 1)) = (A ++ encL encFr (xs.take k)) ++ encFr (xs.getD k fr0)) := by
        show _ = _
        rw [encL_snoc encFr xs fr0 k (by rw [HL.out]; exact hlt), List.append_assoc]
      have HLT : Hid ((A ++ encL encFr (xs.take k)).length ≤ 2000000) := by
        have h1 := encL_take encFr xs k
        have h2 := HEL.out
        have h3 := HQ.out
        have h4 := HL1.out
        show _ ≤ _
        rw [List.length_append]
        omega
      generalize xs.getD k fr0 = p at *
      generalize hqa : (A ++ encL encFr (xs.take k)).length = qa at *
      have HQA := Lib.hid hqa
      clear hqa
      go_wp2_with fail
      refine (packedFrag_own p _ HWF.out (by have := HSL.out; omega) HSF.out).mono ?_
      rintro e w7 ⟨g7, c7', rfl, ho7, hb7⟩
      have hb07 : Below wr.heap.size wr w7 := (below_one wr _).trans (hb7.mono (by simp))
      have HB7 := Lib.hid (HB.out.trans (hb07.mono HB.out.size))
      have HO7 := Lib.hid (HO.out.chg (gs := []) (Chg.of_below hb07) (by simp))
      have HS7 := Lib.hid ho7.seenAt
      have hgl := HO.out.lt.1
      have HL7 : Hid ((encFr p).length ≤ 352) := by have hx := HSL.out; show _ ≤ _; exact encFr_small p hx
      clear ho7 hb7 hb07
      generalize hq7 : (encFr p).length = q7 at *
      have HQ7 := Lib.hid hq7
      clear hq7
      go_wp2_with (at_builtin; refine wpList_appB rfl (.tmp 18) (.tmp 21) rfl w.heap.size g c (A ++ encL encFr (xs.take k)) (encFr p) (by rw [HQA.out]; rfl) HO7.out _ _ (by rw [HQ7.out]; rfl) HS7.out (by have := HLT.out; have := HL7.out; have := HQ7.out; have := HQA.out; omega) HB7.out.size ?_; intro g8 c8 w8 ho8 chg8 hg8; rw [← HN.out] at ho8 ⊢)
      have HB8 := Lib.hid (chg8.below HB7.out HB7.out.size (by simp; omega))
      have HO8 := Lib.hid ho8
      clear ho8 chg8 hg8
      go_roundw
      case rel => exact ⟨k + 1, g8, c8, by omega, by go_num, by rw [List.length_append], HO8, HB8⟩
      case measure => simp [intOf]; omega
    · obtain rfl : k = l := by omega
      have HT : Hid (xs.take k = xs) := List.take_of_length_le (by rw [HL.out]; omega)
      rw [HT.out] at HO ⊢
      have HF : Hid (RetO w (A ++ encL encFr xs) (.returned (.slice (some ⟨g, 0, none⟩) (A ++ encL encFr xs).length c)) wr) := ⟨g, c, rfl, HO.out, HB.out⟩
      generalize (A ++ encL encFr xs).length = q at *
      go_wp2
      go_ret
      exact HF.out

set_option maxRecDepth 100000 in
set_option maxHeartbeats 1000000 in
theorem list_str (a : Option Addr) (cap l : Nat) (xs : List (List Nat)) (w : World) (hl : xs.length = l) (h : StrAt w a cap xs) (hm : l ≤ 4096) (hs : ∀ x ∈ xs, Gf.Bytes x ∧ x.length ≤ 16) :
    Calls Tryz.prog 38 #[.slice a l cap, .func (.func 39) #[] #[]] w (RetO w (encs [(l : Int)] ++ encL Pk.txt xs)) := by
  have HE := Lib.hid h
  have HL := Lib.hid hl
  have HS := Lib.hid hs
  have HEL : Hid ((encL Pk.txt xs).length ≤ 1441792) := by
    have := encL_len Pk.txt 352 xs fun x hx => (by have := (Pk.txt_len x).2; have := (hs x hx).2; omega)
    show _ ≤ _
    omega
  have HI := Lib.hid (ints_lit w [(l : Int)] #[.int .i64 (l : Int)] 1 w.heap.size rfl rfl rfl (by intro z hz; simp at hz; subst hz; exact ⟨by omega, by omega⟩) (by unfold maxLen; omega))
  clear h hl hs
  go_enter Tryz.func38, Tryz.ntmps38
  go_wp2_with fail
  refine (packedNumbers_own _ _ 1 _ _ rfl HI.out (by omega) (by omega)).mono ?_
  rintro e w1 ⟨g1, c1, rfl, ho1, hb1⟩
  have HO1 : Hid (OwnB w1 w.heap.size g1 c1 (encs [(l : Int)] ++ encL Pk.txt (xs.take 0))) := by
    show OwnB _ _ _ _ _
    rw [List.take_zero, encL_nil, List.append_nil]
    exact ho1.base (by simp)
  have HB1 := Lib.hid ((below_one w _).trans (hb1.mono (by simp)))
  have HL1 : Hid ((encs [(l : Int)]).length ≤ 10) := Nat.le_trans (encs_len _) (by simp)
  clear ho1 hb1 HI
  generalize encs [(l : Int)] = A at *
  generalize hq : A.length = q at *
  have HQ := Lib.hid hq
  clear hq
  go_wp2
  go_loopw [5, 7, 14] (fun v _ i ws => ∃ (k g c : Nat), k ≤ l ∧ i = .int .i64 k ∧ v = .slice (some ⟨g, 0, none⟩) (A ++ encL Pk.txt (xs.take k)).length c ∧ Hid (OwnB ws w.heap.size g c (A ++ encL Pk.txt (xs.take k))) ∧ Hid (Below w.heap.size w ws)) (fun _ _ i _ => l - (intOf i).toNat)
  case atStart => exact ⟨0, g1, c1, Nat.zero_le _, rfl, by rw [List.take_zero, encL_nil, List.append_nil, HQ.out], HO1, HB1⟩
  case round =>
    obtain ⟨k, g, c, hk, rfl, rfl, HO, HB⟩ := hrel
    by_cases hlt : k < l
    · obtain ⟨b, off, rfl, hcel⟩ := (HE.out.below HB.out).cell k (by rw [HL.out]; exact hlt)
      have HSL := Lib.hid (HS.out _ (getD_mem xs k [] (by rw [HL.out]; exact hlt)))
      have HN : Hid (A ++ encL Pk.txt (xs.take (k + 1)) = (A ++ encL Pk.txt (xs.take k)) ++ Pk.txt (xs.getD k [])) := by
        show _ = _
        rw [encL_snoc Pk.txt xs [] k (by rw [HL.out]; exact hlt), List.append_assoc]
      have HLT : Hid ((A ++ encL Pk.txt (xs.take k)).length ≤ 2000000) := by
        have h1 := encL_take Pk.txt xs k
        have h2 := HEL.out
        have h3 := HQ.out
        have h4 := HL1.out
        show _ ≤ _
        rw [List.length_append]
        omega
      generalize xs.getD k [] = p at *
      generalize hqa : (A ++ encL Pk.txt (xs.take k)).length = qa at *
      have HQA := Lib.hid hqa
      clear hqa
      go_wp2_with fail
      refine (packedKey_own p _ HSL.out.1 (by have := HSL.out.2; omega)).mono ?_
      rintro e w7 ⟨g7, c7', rfl, ho7, hb7⟩
      have hb07 : Below wr.heap.size wr w7 := hb7
      have HB7 := Lib.hid (HB.out.trans (hb07.mono HB.out.size))
      have HO7 := Lib.hid (HO.out.chg (gs := []) (Chg.of_below hb07) (by simp))
      have HS7 := Lib.hid ho7.seenAt
      have hgl := HO.out.lt.1
      have HL7 : Hid ((Pk.txt p).length ≤ 352) := by have hx := HSL.out; show _ ≤ _; exact (by have := (Pk.txt_len p).2; have := hx.2; omega)
      clear ho7 hb7 hb07
      generalize hq7 : (Pk.txt p).length = q7 at *
      have HQ7 := Lib.hid hq7
      clear hq7
      go_wp2_with (at_builtin; refine wpList_appB rfl (.tmp 18) (.tmp 21) rfl w.heap.size g c (A ++ encL Pk.txt (xs.take k)) (Pk.txt p) (by rw [HQA.out]; rfl) HO7.out _ _ (by rw [HQ7.out]; rfl) HS7.out (by have := HLT.out; have := HL7.out; have := HQ7.out; have := HQA.out; omega) HB7.out.size ?_; intro g8 c8 w8 ho8 chg8 hg8; rw [← HN.out] at ho8 ⊢)
      have HB8 := Lib.hid (chg8.below HB7.out HB7.out.size (by simp; omega))
      have HO8 := Lib.hid ho8
      clear ho8 chg8 hg8
      go_roundw
      case rel => exact ⟨k + 1, g8, c8, by omega, by go_num, by rw [List.length_append], HO8, HB8⟩
      case measure => simp [intOf]; omega
    · obtain rfl : k = l := by omega
      have HT : Hid (xs.take k = xs) := List.take_of_length_le (by rw [HL.out]; omega)
      rw [HT.out] at HO ⊢
      have HF : Hid (RetO w (A ++ encL Pk.txt xs) (.returned (.slice (some ⟨g, 0, none⟩) (A ++ encL Pk.txt xs).length c)) wr) := ⟨g, c, rfl, HO.out, HB.out⟩
      generalize (A ++ encL Pk.txt xs).length = q at *
      go_wp2
      go_ret
      exact HF.out

set_option maxRecDepth 100000 in
set_option maxHeartbeats 1000000 in
theorem list_src (a : Option Addr) (cap l : Nat) (xs : List (Int × Int)) (w : World) (hl : xs.length = l) (h : SrcAt w a cap xs) (hm : l ≤ 4096) (hs : ∀ x ∈ xs, I64 x.1 ∧ I64 x.2) :
    Calls Tryz.prog 40 #[.slice a l cap, .func (.func 41) #[] #[]] w (RetO w (encs [(l : Int)] ++ encL encSr xs)) := by
  have HE := Lib.hid h
  have HL := Lib.hid hl
  have HS := Lib.hid hs
  have HEL : Hid ((encL encSr xs).length ≤ 1441792) := by
    have := encL_len encSr 352 xs fun x hx => encSr_small x
    show _ ≤ _
    omega
  have HI := Lib.hid (ints_lit w [(l : Int)] #[.int .i64 (l : Int)] 1 w.heap.size rfl rfl rfl (by intro z hz; simp at hz; subst hz; exact ⟨by omega, by omega⟩) (by unfold maxLen; omega))
  clear h hl hs
  go_enter Tryz.func40, Tryz.ntmps40
  go_wp2_with fail
  refine (packedNumbers_own _ _ 1 _ _ rfl HI.out (by omega) (by omega)).mono ?_
  rintro e w1 ⟨g1, c1, rfl, ho1, hb1⟩
  have HO1 : Hid (OwnB w1 w.heap.size g1 c1 (encs [(l : Int)] ++ encL encSr (xs.take 0))) := by
    show OwnB _ _ _ _ _
    rw [List.take_zero, encL_nil, List.append_nil]
    exact ho1.base (by simp)
  have HB1 := Lib.hid ((below_one w _).trans (hb1.mono (by simp)))
  have HL1 : Hid ((encs [(l : Int)]).length ≤ 10) := Nat.le_trans (encs_len _) (by simp)
  clear ho1 hb1 HI
  generalize encs [(l : Int)] = A at *
  generalize hq : A.length = q at *
  have HQ := Lib.hid hq
  clear hq
  go_wp2
  go_loopw [5, 7, 14] (fun v _ i ws => ∃ (k g c : Nat), k ≤ l ∧ i = .int .i64 k ∧ v = .slice (some ⟨g, 0, none⟩) (A ++ encL encSr (xs.take k)).length c ∧ Hid (OwnB ws w.heap.size g c (A ++ encL encSr (xs.take k))) ∧ Hid (Below w.heap.size w ws)) (fun _ _ i _ => l - (intOf i).toNat)
  case atStart => exact ⟨0, g1, c1, Nat.zero_le _, rfl, by rw [List.take_zero, encL_nil, List.append_nil, HQ.out], HO1, HB1⟩
  case round =>
    obtain ⟨k, g, c, hk, rfl, rfl, HO, HB⟩ := hrel
    by_cases hlt : k < l
    · obtain ⟨b, off, rfl, hc0, hc1⟩ := (HE.out.below HB.out).cell k (by rw [HL.out]; exact hlt)
      have HSL := Lib.hid (HS.out _ (getD_mem xs k (0, 0) (by rw [HL.out]; exact hlt)))
      have HN : Hid (A ++ encL encSr (xs.take (k + 1)) = (A ++ encL encSr (xs.take k)) ++ encSr (xs.getD k (0, 0))) := by
        show _ = _
        rw [encL_snoc encSr xs (0, 0) k (by rw [HL.out]; exact hlt), List.append_assoc]
      have HLT : Hid ((A ++ encL encSr (xs.take k)).length ≤ 2000000) := by
        have h1 := encL_take encSr xs k
        have h2 := HEL.out
        have h3 := HQ.out
        have h4 := HL1.out
        show _ ≤ _
        rw [List.length_append]
        omega
      generalize xs.getD k (0, 0) = p at *
      generalize hqa : (A ++ encL encSr (xs.take k)).length = qa at *
      have HQA := Lib.hid hqa
      clear hqa
      go_wp2_with fail
      refine (packedSource_own p _ HSL.out.1 HSL.out.2).mono ?_
      rintro e w7 ⟨g7, c7', rfl, ho7, hb7⟩
      have hb07 : Below wr.heap.size wr w7 := (below_one wr _).trans (hb7.mono (by simp))
      have HB7 := Lib.hid (HB.out.trans (hb07.mono HB.out.size))
      have HO7 := Lib.hid (HO.out.chg (gs := []) (Chg.of_below hb07) (by simp))
      have HS7 := Lib.hid ho7.seenAt
      have hgl := HO.out.lt.1
      have HL7 : Hid ((encSr p).length ≤ 352) := by have hx := HSL.out; show _ ≤ _; exact encSr_small p
      clear ho7 hb7 hb07
      generalize hq7 : (encSr p).length = q7 at *
      have HQ7 := Lib.hid hq7
      clear hq7
      go_wp2_with (at_builtin; refine wpList_appB rfl (.tmp 18) (.tmp 21) rfl w.heap.size g c (A ++ encL encSr (xs.take k)) (encSr p) (by rw [HQA.out]; rfl) HO7.out _ _ (by rw [HQ7.out]; rfl) HS7.out (by have := HLT.out; have := HL7.out; have := HQ7.out; have := HQA.out; omega) HB7.out.size ?_; intro g8 c8 w8 ho8 chg8 hg8; rw [← HN.out] at ho8 ⊢)
      have HB8 := Lib.hid (chg8.below HB7.out HB7.out.size (by simp; omega))
      have HO8 := Lib.hid ho8
      clear ho8 chg8 hg8
      go_roundw
      case rel => exact ⟨k + 1, g8, c8, by omega, by go_num, by rw [List.length_append], HO8, HB8⟩
      case measure => simp [intOf]; omega
    · obtain rfl : k = l := by omega
      have HT : Hid (xs.take k = xs) := List.take_of_length_le (by rw [HL.out]; omega)
      rw [HT.out] at HO ⊢
      have HF : Hid (RetO w (A ++ encL encSr xs) (.returned (.slice (some ⟨g, 0, none⟩) (A ++ encL encSr xs).length c)) wr) := ⟨g, c, rfl, HO.out, HB.out⟩
      generalize (A ++ encL encSr xs).length = q at *
      go_wp2
      go_ret
      exact HF.out

set_option maxRecDepth 100000 in
set_option maxHeartbeats 1000000 in
theorem checksum_own (a : Option Addr) (cap l : Nat) (ps : List Nat) (w : World) (hl : ps.length = l) (h : SeenAt w a cap ps) :
    Calls Tryz.prog 43 #[.slice a l cap] w (RetO w (be4 (Crc.sum ps))) := by
  have HC : Hid (Crc.sum ps < 4294967296) := Crc.sum_lt _ h.byte
  have HS := Lib.hid h
  have HL := Lib.hid hl
  clear h hl
  go_enter Tryz.func43, Tryz.ntmps43
  go_wp2_with fail
  refine (of_any _ _ _ ps _ HL.out HS.out).mono ?_
  rintro e w' ⟨rfl, rfl⟩
  generalize Crc.sum ps = S at *
  go_wp2_with fail
  refine (word_any S _ HC.out).mono ?_
  intro e w3 h3
  have HR := Lib.hid h3
  obtain ⟨g3, c3, rfl, _⟩ := h3
  rw [be4_len] at HR ⊢
  go_wp2
  go_ret
  exact HR.out

/-- Bytes handed back, somewhere; their length by a name. -/
def RetS (w : World) (A : List Nat) (q : Nat) (e : Ending) (w' : World) : Prop :=
  ∃ x c, e = .returned (.slice x q c) ∧ SeenAt w' x c A ∧ Below w.heap.size w w'

theorem retS_any {w w' : World} {ps A : List Nat} {q : Nat} {e : Ending} (h : ∃ x c, e = .returned (.slice x ps.length c) ∧ SeenAt w' x c ps ∧ Below w.heap.size w w') (hA : ps = A) (hq : A.length = q) : RetS w A q e w' := by
  subst hA hq
  exact h

theorem retS_own {w w' : World} {ps A : List Nat} {q : Nat} {e : Ending} (h : RetO w ps e w') (hA : ps = A) (hq : A.length = q) : RetS w A q e w' := by
  subst hA hq
  obtain ⟨g, c, rfl, ho, hb⟩ := h
  exact ⟨_, c, rfl, ho.seenAt, hb⟩

section
variable {r : Rm} {w2 W : World} {A : List Nat} {q : Nat}

theorem part_head (b : Nat) (zs : List Int) (h : IntsAt W (some ⟨b, 0, none⟩) 7 zs) (hz : zs.length = 7) (hA : encs zs = A) (hq : A.length = q) : Calls Tryz.prog 34 #[.slice (some ⟨b, 0, none⟩) 7 7] W (RetS W A q) :=
  (packedNumbers_own _ 7 7 zs W hz h (by omega) (by omega)).mono fun _ _ x => retS_own x hA hq

theorem part_mem (h : MsgAt w2 r) (hs : SndMg r.m) (hW : Ext w2 W) (hA : encs r.m.mem = A) (hq : A.length = q) : Calls Tryz.prog 34 #[.slice r.ma r.ml r.mc] W (RetS W A q) :=
  (packedNumbers_any _ _ _ r.m.mem W h.ml (h.mem.below hW) (by have := hs.mem; have := h.ml; omega)).mono fun _ _ x => retS_any x hA hq

theorem part_ent (h : MsgAt w2 r) (hs : SndMg r.m) (hW : Ext w2 W) (hA : encE r.m.ent = A) (hq : A.length = q) :
    Calls Tryz.prog 35 #[.agg #[.int .i64 r.m.ent.seq, .int .i64 r.m.ent.client, .int .i64 r.m.ent.num, .int .i64 r.m.ent.op, .string (strB r.m.ent.key), .int .i64 r.m.ent.size, .int .u32 (r.m.ent.sum : Int), .slice r.loc r.el r.c]] W (RetS W A q) := by
  have hl := sndE_lens r.m.ent hs.ent
  have x := packedEntry_own r.m.ent r.loc r.c W h.wf.ent (by omega) (by omega) (h.ent.below hW)
  rw [h.el] at x
  exact x.mono fun _ _ x => retS_own x hA hq

theorem part_frs (h : MsgAt w2 r) (hs : SndMg r.m) (hW : Ext w2 W) (hA : encs [(r.fl : Int)] ++ encL encFr r.fs = A) (hq : A.length = q) : Calls Tryz.prog 36 #[.slice r.fa r.fl r.fc, .func (.func 37) #[] #[]] W (RetS W A q) :=
  (list_frg _ _ _ r.fs W h.fl (h.frs.below hW) (by have := hs.frags; rw [h.hf, List.length_map] at this; have := h.fl; omega) fun x hx => hs.frag (x.pos, x.data) (by rw [h.hf]; exact List.mem_map_of_mem hx)).mono fun _ _ x => retS_own x hA hq

theorem part_keys (h : MsgAt w2 r) (hs : SndMg r.m) (hW : Ext w2 W) (hA : encs [(r.kl : Int)] ++ encL Pk.txt r.m.keys = A) (hq : A.length = q) : Calls Tryz.prog 38 #[.slice r.ka r.kl r.kc, .func (.func 39) #[] #[]] W (RetS W A q) :=
  (list_str _ _ _ r.m.keys W h.kl (h.keys.below hW) (by have := hs.keys; have := h.kl; omega) fun x hx => ⟨h.wf.keys x hx, hs.key x hx⟩).mono fun _ _ x => retS_own x hA hq

theorem part_srcs (h : MsgAt w2 r) (hs : SndMg r.m) (hW : Ext w2 W) (hA : encs [(r.sl : Int)] ++ encL encSr r.m.srcs = A) (hq : A.length = q) : Calls Tryz.prog 40 #[.slice r.sa r.sl r.sc, .func (.func 41) #[] #[]] W (RetS W A q) :=
  (list_src _ _ _ r.m.srcs W h.sl (h.srcs.below hW) (by have := hs.srcs; have := h.sl; omega) fun x hx => h.wf.srcs x hx).mono fun _ _ x => retS_own x hA hq

theorem part_ents (h : MsgAt w2 r) (hs : SndMg r.m) (hW : Ext w2 W) (hA : encs [(r.nl : Int)] ++ encL encE r.m.ents = A) (hq : A.length = q) : Calls Tryz.prog 42 #[.slice r.na r.nl r.nc, .func (.func 35) #[] #[]] W (RetS W A q) :=
  (list_ent _ _ _ r.m.ents W h.nl (h.ents.below hW) (by have := hs.ents; have := h.nl; omega) fun x hx => hs.each x hx).mono fun _ _ x => retS_own x hA hq

end

theorem encL_frs (fs : List Fr) : encL (enc2 Pk.num Pk.txt) (fs.map fun f => (f.pos, f.data)) = encL encFr fs := by
  unfold encL
  rw [List.map_map]
  rfl

theorem bodM_cut {w : World} {r : Rm} (h : MsgAt w r) : bodM r.m = [[1], encs [r.m.kind, r.m.frm, r.m.to, r.m.epoch, r.m.e, r.m.cep, (r.ml : Int)], encs r.m.mem, encE r.m.ent, encs [(r.fl : Int)] ++ encL encFr r.fs, encs [(r.kl : Int)] ++ encL Pk.txt r.m.keys, encs [(r.sl : Int)] ++ encL encSr r.m.srcs, encs [(r.nl : Int)] ++ encL encE r.m.ents].flatten := by
  have e1 : encL encSr r.m.srcs = encL (enc2 Pk.num Pk.num) r.m.srcs := rfl
  have e2 : encs r.m.mem = encL Pk.num r.m.mem := rfl
  have o : ∀ z, encs [z] = Pk.num z := fun z => by simp [encs]
  have o7 : ∀ a b c d e f g : Int, encs [a, b, c, d, e, f, g] = Pk.num a ++ (Pk.num b ++ (Pk.num c ++ (Pk.num d ++ (Pk.num e ++ (Pk.num f ++ Pk.num g))))) := fun a b c d e f g => by simp [encs]
  rw [o, o, o, o, o7, e1, e2, ← encL_frs, ← h.hf]
  unfold bodM encTM Pm.tup
  simp only [enc2, encK, List.flatten_cons, List.flatten_nil, List.append_nil, List.append_assoc, List.cons_append, List.nil_append, h.ml, h.kl, h.sl, h.nl]
  rw [show r.m.frags.length = r.fl by rw [h.hf, List.length_map, h.fl]]

theorem rows_eight {w : World} {a0 a1 a2 a3 a4 a5 a6 a7 : Option Addr} {c0 c1 c2 c3 c4 c5 c6 c7 q0 q1 q2 q3 q4 q5 q6 q7 : Nat} {p0 p1 p2 p3 p4 p5 p6 p7 : List Nat} (l0 : p0.length = q0) (l1 : p1.length = q1) (l2 : p2.length = q2) (l3 : p3.length = q3) (l4 : p4.length = q4) (l5 : p5.length = q5) (l6 : p6.length = q6) (l7 : p7.length = q7)
    (h0 : SeenAt w a0 c0 p0) (h1 : SeenAt w a1 c1 p1) (h2 : SeenAt w a2 c2 p2) (h3 : SeenAt w a3 c3 p3) (h4 : SeenAt w a4 c4 p4) (h5 : SeenAt w a5 c5 p5) (h6 : SeenAt w a6 c6 p6) (h7 : SeenAt w a7 c7 p7) :
    GridAt (w.alloc (.cells #[.slice a0 q0 c0, .slice a1 q1 c1, .slice a2 q2 c2, .slice a3 q3 c3, .slice a4 q4 c4, .slice a5 q5 c5, .slice a6 q6 c6, .slice a7 q7 c7] 28)) (some ⟨w.heap.size, 0, none⟩) 8 [p0, p1, p2, p3, p4, p5, p6, p7] := by
  subst l0 l1 l2 l3 l4 l5 l6 l7
  refine ⟨Nat.le_refl _, by unfold maxLen; omega, fun i hi => ?_⟩
  match i, hi with
  | 0, _ => exact ⟨_, 0, _, rfl, by rw [World.cell?_alloc_mark]; rfl, _, _, rfl, h0.lit _⟩
  | 1, _ => exact ⟨_, 0, _, rfl, by rw [World.cell?_alloc_mark]; rfl, _, _, rfl, h1.lit _⟩
  | 2, _ => exact ⟨_, 0, _, rfl, by rw [World.cell?_alloc_mark]; rfl, _, _, rfl, h2.lit _⟩
  | 3, _ => exact ⟨_, 0, _, rfl, by rw [World.cell?_alloc_mark]; rfl, _, _, rfl, h3.lit _⟩
  | 4, _ => exact ⟨_, 0, _, rfl, by rw [World.cell?_alloc_mark]; rfl, _, _, rfl, h4.lit _⟩
  | 5, _ => exact ⟨_, 0, _, rfl, by rw [World.cell?_alloc_mark]; rfl, _, _, rfl, h5.lit _⟩
  | 6, _ => exact ⟨_, 0, _, rfl, by rw [World.cell?_alloc_mark]; rfl, _, _, rfl, h6.lit _⟩
  | 7, _ => exact ⟨_, 0, _, rfl, by rw [World.cell?_alloc_mark]; rfl, _, _, rfl, h7.lit _⟩

end Go.Proofs.YtggjpjpemgpeeaaGreat
